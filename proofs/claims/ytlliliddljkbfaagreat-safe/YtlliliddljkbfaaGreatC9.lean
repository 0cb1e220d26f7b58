import Derived.Test.YtlliliddljkbfaaGreatC7
import Derived.Test.YtlliliddljkbfaaGreatC8
import Derived.Deep.QuietTactic
import Derived.BigQuiet
namespace Go.Proofs.YtlliliddljkbfaaGreat
set_option maxHeartbeats 64000000
set_option maxRecDepth 100000
open Go.RowKit Sp
def bt (s : ByteArray) (k : Nat) : UInt8 := if h : k < s.size then s[k] else 0
theorem bt_in {s : ByteArray} {k : Nat} (h : k < s.size) : bt s k = s[k] := by unfold bt; rw [dif_pos h]
theorem pk_bt {s : ByteArray} {k : Nat} (h : k < s.size) : pk s k = ((bt s k).toNat : Int) := by rw [bt_in h]; unfold pk; rw [dif_pos h]
def pcs (ok : Nat → Bool) (s : ByteArray) : Nat → List ByteArray
  | 0 => []
  | k + 1 => pcs ok s k ++ [if ok k = true then b1 (bt s k) else escO (bt s k)]
theorem pcs_len (ok : Nat → Bool) (s : ByteArray) (k : Nat) : (pcs ok s k).length = k := by
  induction k with
  | zero => rfl
  | succ k ih => simp [pcs, ih]
theorem pcs_total (ok : Nat → Bool) (s : ByteArray) (k : Nat) : total (pcs ok s k) ≤ 4 * k := by
  induction k with
  | zero => simp [pcs, total]
  | succ k ih =>
    unfold pcs
    rw [total_append]
    have : (if ok k = true then b1 (bt s k) else escO (bt s k)).size ≤ 4 := by
      split
      · show 1 ≤ 4; omega
      · show 4 ≤ 4; omega
    simp only [total]
    omega
theorem app_nob (a : ByteArray) : a ++ nob = a := by
  apply ByteArray.ext
  rw [ByteArray.data_append]
  simp [nob]
theorem pcs_succ (ok : Nat → Bool) (s : ByteArray) (k : Nat) : pcs ok s (k + 1) = pcs ok s k ++ [if ok k = true then b1 (bt s k) else escO (bt s k)] := rfl
theorem outF_pcs (ok : Nat → UInt8 → Bool) (s : ByteArray) : ∀ (n k : Nat), k + n = s.size → joinB (pcs (fun i => ok i (bt s i)) s k) ++ outF ok k (s.data.toList.drop k) = joinB (pcs (fun i => ok i (bt s i)) s s.size) := by
  intro n
  induction n with
  | zero =>
    intro k h
    have : k = s.size := by omega
    subst this
    rw [List.drop_of_length_le (by rw [Array.length_toList]; exact Nat.le_refl _)]
    show joinB _ ++ nob = _
    exact app_nob _
  | succ n ih =>
    intro k h
    have hk : k < s.data.toList.length := by simp only [Array.length_toList]; show k < s.size; omega
    rw [List.drop_eq_getElem_cons hk]
    have hb : s.data.toList[k] = bt s k := by rw [bt_in (show k < s.size by omega)]; rfl
    rw [hb]
    unfold outF
    have := ih (k + 1) (by omega)
    rw [pcs_succ, joinB_snoc, ByteArray.append_assoc] at this
    exact this
theorem outF_all (ok : Nat → UInt8 → Bool) (s : ByteArray) : outF ok 0 s.data.toList = joinB (pcs (fun i => ok i (bt s i)) s s.size) := by
  have := outF_pcs ok s s.size 0 (by omega)
  simpa [pcs, joinB] using this
theorem one_b1 {s : ByteArray} {k : Nat} (h : k < s.size) : one s k = b1 (bt s k) := by
  rw [bt_in h]
  unfold one b1
  apply ByteArray.ext
  rw [ByteArray.data_extract]
  apply Array.ext
  · simp; omega
  · intro i h1 h2
    simp at h2
    subst h2
    simp
    rfl
theorem bytewise_c (s : ByteArray) (g : Nat) (cs : Array Value) (ok : Nat → Bool) (w : World) (hs : s.size ≤ 4000000)
    (hg : ∀ (args : Array Value) (w : World), (callFunc g args).run Tryz.prog w = .ok (.enter g args) w)
    (hf : ∀ i, i < s.size → ∀ w', Below w.heap.size w w' → Calls Tryz.prog g (#[.int .i64 (i : Int)] ++ cs) w' fun ex w'' => ex = .returned (.bool (ok i)) ∧ Below w'.heap.size w' w'') :
    Calls Tryz.prog 249 #[.string s, .func (.func g) #[] cs] w fun e w' => e = .returned (.string (joinB (pcs ok s s.size))) ∧ Below w.heap.size w w' := by
  have HF : Hid (∀ i, i < s.size → ∀ w', Below w.heap.size w w' → Calls Tryz.prog g (#[.int .i64 (i : Int)] ++ cs) w' fun ex w'' => ex = .returned (.bool (ok i)) ∧ Below w'.heap.size w' w'') := hf
  clear hf
  obtain ⟨iS, hiS⟩ := info_str
  have HI : Hid (Tryz.prog.info? 9 = some iS ∧ iS.zero = some (.string ⟨#[]⟩) ∧ iS.size = 1 ∧ iS.bytes = 16) := hiS
  clear hiS
  go_enter Tryz.func249, Tryz.ntmps249
  go_wp2_with fail
  go_loopg [5, 9] s.size (fun gg v5 v wr => ∃ (u : Value) (k : Nat), u = v5 ∧ k + gg = s.size ∧ v = .int .i64 (k : Int) ∧ Aside (wr.ownsRow w.heap.size 9 1 u k ((pcs ok s k).map Value.string) ∧ Below w.heap.size w wr))
  case atStart => exact ⟨_, 0, rfl, by omega, rfl, World.ownsRow_nil _ _ _ _, Below.refl _ _⟩
  case round =>
    obtain ⟨u, k, rfl, hk, rfl, hA⟩ := hrel
    have O1 : Hid (wr.ownsRow w.heap.size 9 1 u k ((pcs ok s k).map Value.string)) := hA.out.1
    have B1 : Hid (Below w.heap.size w wr) := hA.out.2
    clear hA
    have hsz := B1.out.size
    by_cases hlt : k < s.size
    · have h1 : (k : Int) < (s.size : Int) := by omega
      have hc := HF.out k hlt wr B1.out
      have HC : Hid (Calls Tryz.prog g (#[.int .i64 (k : Int)] ++ cs) wr fun ex w'' => ex = .returned (.bool (ok k)) ∧ Below wr.heap.size wr w'') := hc
      clear hc
      have hw1 : IntKind.i64.wrap ((k : Int) + 1) = (k : Int) + 1 := by rw [IntKind.wrap_i64]; omega
      have hsl := slice1 s k hlt
      rw [one_b1 hlt] at hsl
      have hix := index_pk s k hlt
      rw [pk_bt hlt] at hix
      go_wp2_with fail
      refine HC.out.mono ?_
      obtain ⟨b, Hb⟩ : ∃ b, Hid (ok k = b) := ⟨_, hid rfl⟩
      rw [Hb.out]
      rintro e w1 ⟨rfl, hb1⟩
      have B2 : Hid (Below w.heap.size w w1) := B1.out.trans (hb1.mono hsz)
      have O2 : Hid (w1.ownsRow w.heap.size 9 1 u k ((pcs ok s k).map Value.string)) := own_keep O1.out fun r hr => hb1.block r (O1.out.lt r hr).2
      have hsz2 := B2.out.size
      clear hb1
      cases b
      · go_wp2_with fail
        refine (wEscape_c (bt s k) _).mono ?_
        rintro e w2 ⟨rfl, hb2⟩
        have B3 : Hid (Below w.heap.size w w2) := B2.out.trans (hb2.mono hsz2)
        have O3 : Hid (w2.ownsRow w.heap.size 9 1 u k ((pcs ok s k).map Value.string)) := own_keep O2.out fun r hr => hb2.block r (O2.out.lt r hr).2
        have hsz3 := B3.out.size
        clear hb2
        have HP : Hid (pcs ok s (k + 1) = pcs ok s k ++ [escO (bt s k)]) := by show _ = _; rw [pcs_succ, Hb.out]; rfl
        go_wp2_with (at_builtin; go_must (refine wpList_append_own _ rfl _ _ 26 rfl w.heap.size 9 iS (.string ⟨#[]⟩) 1 16 Tryz.underlying26 HI.out.1 HI.out.2.1 HI.out.2.2.1 HI.out.2.2.2 rfl (by omega) u k ((pcs ok s k).map Value.string) rfl (O3.out.alloc _) ⟨w2.heap.size, 0, none⟩ 1 1 [.string (escO (bt s k))] rfl rfl (cell_one_new _ _ _) (str_oneCell _) (by unfold maxLen; omega) (by omega) (by simp; omega) ?_))
        intro v4 w4 hown4 hgr4 _
        have O4 : Hid (w4.ownsRow w.heap.size 9 1 v4 (k + 1) ((pcs ok s (k + 1)).map Value.string)) := by show World.ownsRow _ _ _ _ _ _ _; rw [HP.out, List.map_append]; exact hown4
        have B4 : Hid (Below w.heap.size w w4) := (B3.out.alloc hsz3 _).grown hgr4 (by simp; omega) (fun rr hr => (O3.out.lt rr hr).1)
        clear hown4 hgr4
        go_wp2_with fail
        go_roundg (gk - 1)
        case measure => omega
        case rel => exact ⟨v4, k + 1, rfl, by omega, by congr 1, O4.out, B4.out⟩
      · have HP : Hid (pcs ok s (k + 1) = pcs ok s k ++ [b1 (bt s k)]) := by show _ = _; rw [pcs_succ, Hb.out]; rfl
        go_wp2_with (at_builtin; go_must (refine wpList_append_own _ rfl _ _ 26 rfl w.heap.size 9 iS (.string ⟨#[]⟩) 1 16 Tryz.underlying26 HI.out.1 HI.out.2.1 HI.out.2.2.1 HI.out.2.2.2 rfl (by omega) u k ((pcs ok s k).map Value.string) rfl (O2.out.alloc _) ⟨w1.heap.size, 0, none⟩ 1 1 [.string (b1 (bt s k))] rfl rfl (cell_one_new _ _ _) (str_oneCell _) (by unfold maxLen; omega) (by omega) (by simp; omega) ?_))
        intro v4 w4 hown4 hgr4 _
        have O4 : Hid (w4.ownsRow w.heap.size 9 1 v4 (k + 1) ((pcs ok s (k + 1)).map Value.string)) := by show World.ownsRow _ _ _ _ _ _ _; rw [HP.out, List.map_append]; exact hown4
        have B4 : Hid (Below w.heap.size w w4) := (B2.out.alloc hsz2 _).grown hgr4 (by simp; omega) (fun rr hr => (O2.out.lt rr hr).1)
        clear hown4 hgr4
        go_wp2_with fail
        go_roundg (gk - 1)
        case measure => omega
        case rel => exact ⟨v4, k + 1, rfl, by omega, by congr 1, O4.out, B4.out⟩
    · have h1 : (s.size : Int) ≤ (k : Int) := by omega
      have hke : k = s.size := by omega
      subst hke
      have hpt := pcs_total ok s s.size
      have hpl := pcs_len ok s s.size
      have O5 : Hid (wr.ownsRow w.heap.size 9 1 u (pcs ok s s.size).length ((pcs ok s s.size).map Value.string)) := by show World.ownsRow _ _ _ _ _ _ _; rw [hpl]; exact O1.out
      go_wp2_with fail
      refine (Join_c (pcs ok s s.size) w.heap.size u _ O5.out (by omega) (by omega)).mono ?_
      rintro e w5 ⟨rfl, hb5⟩
      have B5 : Hid (Below w.heap.size w w5) := B1.out.trans (hb5.mono hsz)
      clear hb5
      go_wp2_with fail
      go_ret
      exact ⟨rfl, B5.out⟩
def VarB (w : World) (b : Nat) (v : Value) (T : TypeId) : Prop := w.heap[b]? = some (.cells #[v] T (0, 0))
theorem VarB.c {w : World} {b : Nat} {v : Value} {T : TypeId} (h : VarB w b v T) : w.cell? ⟨b, 0, none⟩ = some v := by unfold World.cell?; rw [show w.heap[b]? = _ from h]; rfl
theorem VarB.lt {w : World} {b : Nat} {v : Value} {T : TypeId} (h : VarB w b v T) : b < w.heap.size := (Array.getElem?_eq_some_iff.1 h).1
theorem VarB.below {w w' : World} {b : Nat} {v : Value} {T : TypeId} {g : Nat} (h : VarB w b v T) (hb : Below g w w') (hg : b < g) : VarB w' b v T := by
  unfold VarB; rw [hb.block _ hg]; exact h
theorem VarB.new (w : World) (v : Value) (T : TypeId) : VarB (w.alloc (.cells #[v] T)) w.heap.size v T := heap_alloc_new w _
theorem VarB.alloc {w : World} {b : Nat} {v : Value} {T : TypeId} (h : VarB w b v T) (o : Obj) : VarB (w.alloc o) b v T := by
  unfold VarB; rw [Below.heap_alloc _ _ _ h.lt]; exact h
theorem mf_run : ∀ (fn : Fn) (first cap : Array Value) (w : World), (Instr.makeFunc fn first cap).run Tryz.prog w = .ok (.func fn first cap) w := fun _ _ _ _ => rfl
def pnI (c : Int) (i : Nat) (p0 : Int) (n : Nat) : Bool := if (wlI c || c == 95) = true then true else if (c == 45) = true then decide (1 < n) else if wdI c = true then (decide (1 < i) || (i == 1 && !(p0 == 45))) else false
theorem pnI_eq {s : ByteArray} {i : Nat} (h : i < s.size) : pnI (pk s i) i (pk s 0) s.size = plainN s i (bt s i) := by
  rw [pk_bt h]
  unfold pnI plainN
  rw [wlI_b, wdI_b, ← show (bt s i == 95) = (((bt s i).toNat : Int) == 95) from byteI _ 95 (by omega), ← show (bt s i == 45) = (((bt s i).toNat : Int) == 45) from byteI _ 45 (by omega)]
  generalize bt s i = c at *
  by_cases h1 : c = 45
  · subst h1
    have e1 : plainL 45 = false := by decide
    have e2 : plainD 45 = false := by decide
    rw [e1, e2]
    simp
    rw [Bool.eq_iff_iff]; simp; omega
  · have h1' : (c == 45) = false := by simpa using h1
    rw [h1']
    cases hd : plainD c
    · cases hl : plainL c <;> cases h5 : (c == 95) <;> simp [h1]
    · have hl : plainL c = false := by
        unfold plainD at hd; unfold plainL
        rw [Bool.eq_false_iff]
        simp at *; omega
      have h5 : (c == 95) = false := by
        unfold plainD at hd
        rw [beq_eq_false_iff_ne]
        rintro rfl
        simp at hd
      rw [hl, h5]
      simp
      generalize pk s 0 = q
      rw [Bool.eq_iff_iff]; simp
      omega
theorem plainName_c (s : ByteArray) (i : Nat) (w : World) (hi : i < s.size) (hs : s.size ≤ 4000000) :
    Calls Tryz.prog 251 #[.string s, .int .i64 (i : Int)] w fun e w' => e = .returned (.bool (plainN s i (bt s i))) ∧ w' = w := by
  rw [← pnI_eq hi]
  have hix := index_pk s i hi
  have hix0 := index_pk s 0 (by omega)
  have h0 : (i : Int) < (s.size : Int) := by omega
  have h00 : (0 : Int) < (s.size : Int) := by omega
  obtain ⟨c, Hc⟩ : ∃ c, Hid (pk s i = c) := ⟨_, hid rfl⟩
  obtain ⟨q, Hq⟩ : ∃ q, Hid (pk s 0 = q) := ⟨_, hid rfl⟩
  rw [Hc.out] at hix ⊢
  rw [Hq.out] at hix0 ⊢
  have E0 : ∀ h : 0 < s.size, ((s[0]'h).toNat : Int) = q := fun h => by rw [← Hq.out, pk_bt h, bt_in h]
  have HE0 : Hid (∀ h : 0 < s.size, ((s[0]'h).toNat : Int) = q) := E0
  clear Hc Hq E0
  have HD : Hid (pnI c i q s.size = if (wlI c || c == 95) = true then true else if (c == 45) = true then decide (1 < s.size) else if wdI c = true then (decide (1 < i) || (i == 1 && !(q == 45))) else false) := rfl
  cases h1 : wlI c
  · cases h2 : (c == 95)
    · cases h3 : (c == 45)
      · cases h4 : wdI c
        · have HV : Hid (pnI c i q s.size = false) := by show _ = _; rw [HD.out, h1, h2, h3, h4]; rfl
          go_enter Tryz.func251, Tryz.ntmps251
          go_wp2_with (first | (go_at_call 294; refine (wLetter_c _ _).mono ?_; rintro e w' ⟨rfl, rfl⟩) | (go_at_call 295; refine (wDigit_c _ _).mono ?_; rintro e w' ⟨rfl, rfl⟩))
          go_ret
          exact ⟨rbool HV.out.symm, rfl⟩
        · have HV : Hid (pnI c i q s.size = (decide (1 < i) || (i == 1 && !(q == 45)))) := by show _ = _; rw [HD.out, h1, h2, h3, h4]; rfl
          by_cases h5 : 1 < i
          · have h5' : (1 : Int) < (i : Int) := by omega
            have HW : Hid (pnI c i q s.size = true) := by show _ = _; rw [HV.out, decide_eq_true h5]; rfl
            go_enter Tryz.func251, Tryz.ntmps251
            go_wp2_with (first | (go_at_call 294; refine (wLetter_c _ _).mono ?_; rintro e w' ⟨rfl, rfl⟩) | (go_at_call 295; refine (wDigit_c _ _).mono ?_; rintro e w' ⟨rfl, rfl⟩))
            go_ret
            exact ⟨rbool HW.out.symm, rfl⟩
          · have h5' : (i : Int) ≤ 1 := by omega
            by_cases h6 : i = 1
            · have h6' : ((i : Int) == 1) = true := by simp; omega
              have HW : Hid (pnI c i q s.size = !(q == 45)) := by show _ = _; rw [HV.out, decide_eq_false h5, h6]; rfl
              clear h6 h5
              go_enter Tryz.func251, Tryz.ntmps251
              go_wp2_with (first | (go_at_call 294; refine (wLetter_c _ _).mono ?_; rintro e w' ⟨rfl, rfl⟩) | (go_at_call 295; refine (wDigit_c _ _).mono ?_; rintro e w' ⟨rfl, rfl⟩))
              go_ret
              exact ⟨rbool (by rw [HW.out, decide_eq_false (by omega), HE0.out (by omega)]; rfl), rfl⟩
            · have h6' : ((i : Int) == 1) = false := by simp; omega
              have HW : Hid (pnI c i q s.size = false) := by show _ = _; rw [HV.out, decide_eq_false h5, show (i == 1) = false by simpa using h6]; rfl
              go_enter Tryz.func251, Tryz.ntmps251
              go_wp2_with (first | (go_at_call 294; refine (wLetter_c _ _).mono ?_; rintro e w' ⟨rfl, rfl⟩) | (go_at_call 295; refine (wDigit_c _ _).mono ?_; rintro e w' ⟨rfl, rfl⟩))
              go_ret
              exact ⟨rbool (by rw [HW.out, decide_eq_false (by omega)]), rfl⟩
      · have HV : Hid (pnI c i q s.size = decide ((1 : Int) < (s.size : Int))) := by show _ = _; rw [HD.out, h1, h2, h3]; simp; omega
        go_enter Tryz.func251, Tryz.ntmps251
        go_wp2_with (first | (go_at_call 294; refine (wLetter_c _ _).mono ?_; rintro e w' ⟨rfl, rfl⟩) | (go_at_call 295; refine (wDigit_c _ _).mono ?_; rintro e w' ⟨rfl, rfl⟩))
        go_ret
        exact ⟨rbool HV.out.symm, rfl⟩
    · have HV : Hid (pnI c i q s.size = true) := by show _ = _; rw [HD.out, h1, h2]; rfl
      go_enter Tryz.func251, Tryz.ntmps251
      go_wp2_with (first | (go_at_call 294; refine (wLetter_c _ _).mono ?_; rintro e w' ⟨rfl, rfl⟩) | (go_at_call 295; refine (wDigit_c _ _).mono ?_; rintro e w' ⟨rfl, rfl⟩))
      go_ret
      exact ⟨rbool HV.out.symm, rfl⟩
  · have HV : Hid (pnI c i q s.size = true) := by show _ = _; rw [HD.out, h1]; rfl
    go_enter Tryz.func251, Tryz.ntmps251
    go_wp2_with (first | (go_at_call 294; refine (wLetter_c _ _).mono ?_; rintro e w' ⟨rfl, rfl⟩) | (go_at_call 295; refine (wDigit_c _ _).mono ?_; rintro e w' ⟨rfl, rfl⟩))
    go_ret
    exact ⟨rbool HV.out.symm, rfl⟩
theorem Name1_c (s : ByteArray) (i b : Nat) (w : World) (hi : i < s.size) (hs : s.size ≤ 4000000) (hb : VarB w b (.string s) 9) :
    Calls Tryz.prog 250 #[.int .i64 (i : Int), .pointer (some ⟨b, 0, none⟩)] w fun e w' => e = .returned (.bool (plainN s i (bt s i))) ∧ Below w.heap.size w w' := by
  have c0 := hb.c
  go_enter Tryz.func250, Tryz.ntmps250
  go_wp2_with fail
  refine (plainName_c s i _ hi hs).mono ?_
  rintro e wq ⟨rfl, hwq⟩
  rw [hwq]
  go_wp2_with fail
  go_ret
  exact ⟨rfl, Below.refl _ _⟩
theorem Text1_c (s : ByteArray) (i b : Nat) (w : World) (hi : i < s.size) (hb : VarB w b (.string s) 9) :
    Calls Tryz.prog 277 #[.int .i64 (i : Int), .pointer (some ⟨b, 0, none⟩)] w fun e w' => e = .returned (.bool (plainT (bt s i))) ∧ Below w.heap.size w w' := by
  have c0 := hb.c
  have hix := index_pk s i hi
  rw [pk_bt hi] at hix
  have h0 : (i : Int) < (s.size : Int) := by omega
  rw [← wtI_b]
  go_enter Tryz.func277, Tryz.ntmps277
  go_wp2_with fail
  refine (plainText_c _ _).mono ?_
  rintro e wq ⟨rfl, hwq⟩
  rw [hwq]
  go_wp2_with fail
  go_ret
  exact ⟨rfl, Below.refl _ _⟩
theorem link1_c (s : ByteArray) (i b : Nat) (w : World) (hi : i < s.size) (hb : VarB w b (.string s) 9) :
    Calls Tryz.prog 280 #[.int .i64 (i : Int), .pointer (some ⟨b, 0, none⟩)] w fun e w' => e = .returned (.bool (plainK (bt s i))) ∧ Below w.heap.size w w' := by
  have c0 := hb.c
  have hix := index_pk s i hi
  rw [pk_bt hi] at hix
  have h0 : (i : Int) < (s.size : Int) := by omega
  rw [← wkI_b]
  go_enter Tryz.func280, Tryz.ntmps280
  go_wp2_with fail
  refine (plainLink_c _ _).mono ?_
  rintro e wq ⟨rfl, hwq⟩
  rw [hwq]
  go_wp2_with fail
  go_ret
  exact ⟨rfl, Below.refl _ _⟩
theorem Name_c (s : ByteArray) (w : World) (hs : s.size ≤ 4000000) : Calls Tryz.prog 190 #[.string s] w fun e w' => e = .returned (.string (nameO s)) ∧ Below w.heap.size w w' := by
  have hmf := mf_run
  have V1 : Hid (VarB (w.alloc (.cells #[.string s] 9)) w.heap.size (.string s) 9) := VarB.new _ _ _
  have B1 : Hid (Below w.heap.size w (w.alloc (.cells #[.string s] 9))) := (Below.refl _ _).alloc (Nat.le_refl _) _
  have c0 := V1.out.c
  have HV : Hid (nameO s = joinB (pcs (fun i => plainN s i (bt s i)) s s.size)) := outF_all _ s
  go_enter Tryz.func190, Tryz.ntmps190
  go_wp2_with fail
  generalize w.alloc (.cells #[.string s] 9) = w2 at *
  refine (bytewise_c s _ _ (fun i => plainN s i (bt s i)) w2 hs (fun _ _ => rfl) ?_).mono ?_
  · intro i hi w' hb'
    exact Name1_c s i _ w' hi hs (V1.out.below hb' V1.out.lt)
  · rintro e wq ⟨rfl, hwq⟩
    have B3 : Hid (Below w.heap.size w wq) := B1.out.trans (hwq.mono B1.out.size)
    clear hwq
    go_wp2_with fail
    go_ret
    exact ⟨by rw [HV.out]; rfl, B3.out⟩
theorem Text_c (s : ByteArray) (w : World) (hs : s.size ≤ 4000000) : Calls Tryz.prog 229 #[.string s] w fun e w' => e = .returned (.string (textO s)) ∧ Below w.heap.size w w' := by
  have hmf := mf_run
  have V1 : Hid (VarB (w.alloc (.cells #[.string s] 9)) w.heap.size (.string s) 9) := VarB.new _ _ _
  have B1 : Hid (Below w.heap.size w (w.alloc (.cells #[.string s] 9))) := (Below.refl _ _).alloc (Nat.le_refl _) _
  have c0 := V1.out.c
  obtain ⟨m, Hm⟩ : ∃ m, Hid (joinB (pcs (fun i => plainT (bt s i)) s s.size) = m) := ⟨_, hid rfl⟩
  have HV : Hid (textO s = joinB [⟨#[34]⟩, m, ⟨#[34]⟩]) := by show _ = _; unfold textO; rw [outF_all, Hm.out]; simp [joinB, quoO, b1]
  have hms : m.size ≤ 16000000 := by rw [← Hm.out, size_joinB]; have := pcs_total (fun i => plainT (bt s i)) s s.size; omega
  go_enter Tryz.func229, Tryz.ntmps229
  go_wp2_with fail
  generalize w.alloc (.cells #[.string s] 9) = w2 at *
  refine (bytewise_c s _ _ (fun i => plainT (bt s i)) w2 hs (fun _ _ => rfl) ?_).mono ?_
  · intro i hi w' hb'
    exact Text1_c s i _ w' hi (V1.out.below hb' V1.out.lt)
  · rw [Hm.out]
    rintro e wq ⟨rfl, hwq⟩
    have B3 : Hid (Below w.heap.size w wq) := B1.out.trans (hwq.mono B1.out.size)
    have hs3 := B3.out.size
    clear hwq c0
    go_wp2_with fail
    refine (Join_c [⟨#[34]⟩, m, ⟨#[34]⟩] wq.heap.size _ _ (row3 wq ⟨#[34]⟩ m ⟨#[34]⟩) (by simp) (by show 1 + (m.size + (1 + 0)) ≤ _; omega)).mono ?_
    rintro e w5 ⟨rfl, hb5⟩
    have B5 : Hid (Below w.heap.size w w5) := (B3.out.alloc hs3 _).trans (hb5.mono (by simp; omega))
    clear hb5
    go_wp2_with fail
    go_ret
    exact ⟨by rw [HV.out]; rfl, B5.out⟩
def unitB (s : ByteArray) (i : Nat) : Bool := plainN s i (bt s i) && !(i == 0 && (bt s i == 101 || bt s i == 69))
theorem unit1_c (s : ByteArray) (i b : Nat) (w : World) (hi : i < s.size) (hs : s.size ≤ 4000000) (hb : VarB w b (.string s) 9) :
    Calls Tryz.prog 279 #[.int .i64 (i : Int), .pointer (some ⟨b, 0, none⟩)] w fun e w' => e = .returned (.bool (unitB s i)) ∧ Below w.heap.size w w' := by
  have c0 := hb.c
  have hix := index_pk s i hi
  rw [pk_bt hi] at hix
  have h0 : (i : Int) < (s.size : Int) := by omega
  have HU : Hid (unitB s i = (plainN s i (bt s i) && !(i == 0 && (((bt s i).toNat : Int) == 101 || ((bt s i).toNat : Int) == 69)))) := by
    show _ = _
    unfold unitB
    rw [show (bt s i == 101) = (((bt s i).toNat : Int) == 101) from byteI _ 101 (by omega), show (bt s i == 69) = (((bt s i).toNat : Int) == 69) from byteI _ 69 (by omega)]
  obtain ⟨z, Hz⟩ : ∃ z, Hid (plainN s i (bt s i) = z) := ⟨_, hid rfl⟩
  rw [Hz.out] at HU
  have hpn := plainName_c s i w hi hs
  rw [Hz.out] at hpn
  have HPN : Hid (Calls Tryz.prog 251 #[.string s, .int .i64 (i : Int)] w fun e w' => e = .returned (.bool z) ∧ w' = w) := hpn
  clear hpn hb
  obtain ⟨c, Hc⟩ : ∃ c, Hid (((bt s i).toNat : Int) = c) := ⟨_, hid rfl⟩
  rw [Hc.out] at HU hix
  cases z
  · have HV : Hid (unitB s i = false) := HU.out
    go_enter Tryz.func279, Tryz.ntmps279
    go_wp2_with fail
    refine HPN.out.mono ?_
    rintro e wq ⟨rfl, hwq⟩
    rw [hwq]
    go_wp2_with fail
    go_ret
    exact ⟨rbool HV.out.symm, Below.refl _ _⟩
  · by_cases h1 : i = 0
    · subst h1
      have HV : Hid (unitB s 0 = (((s[0]'hi).toNat : Int) != 101 && ((s[0]'hi).toNat : Int) != 69)) := by
        show _ = _
        rw [HU.out, ← Hc.out, bt_in hi]
        cases h2 : (((s[0]'hi).toNat : Int) == 101) <;> cases h3 : (((s[0]'hi).toNat : Int) == 69) <;> simp [bne, h2, h3]
      clear HU Hc hix
      go_enter Tryz.func279, Tryz.ntmps279
      go_wp2_with fail
      refine HPN.out.mono ?_
      rintro e wq ⟨rfl, hwq⟩
      rw [hwq]
      go_wp2_with fail
      all_goals
        go_ret
        first | exact ⟨rbool HV.out.symm, Below.refl _ _⟩ | exact ⟨rbool (by rw [HV.out]; simp [*]), Below.refl _ _⟩
    · have h1' : (0 : Int) < (i : Int) := by omega
      have h1d : decide ((0 : Int) < (i : Int)) = true := decide_eq_true h1'
      have h1b : (i == 0) = false := by simpa using h1
      have HV : Hid (unitB s i = true) := by show _ = _; rw [HU.out, h1b]; rfl
      clear h1 h1b HU
      go_enter Tryz.func279, Tryz.ntmps279
      go_wp2_with fail
      refine HPN.out.mono ?_
      rintro e wq ⟨rfl, hwq⟩
      rw [hwq]
      go_wp2_with fail
      go_ret
      exact ⟨rbool HV.out.symm, Below.refl _ _⟩
theorem unit_c (s : ByteArray) (w : World) (hs : s.size ≤ 4000000) : Calls Tryz.prog 230 #[.string s] w fun e w' => e = .returned (.string (unitO s)) ∧ Below w.heap.size w w' := by
  have hmf := mf_run
  have V1 : Hid (VarB (w.alloc (.cells #[.string s] 9)) w.heap.size (.string s) 9) := VarB.new _ _ _
  have B1 : Hid (Below w.heap.size w (w.alloc (.cells #[.string s] 9))) := (Below.refl _ _).alloc (Nat.le_refl _) _
  have c0 := V1.out.c
  have HV : Hid (unitO s = joinB (pcs (unitB s) s s.size)) := outF_all _ s
  go_enter Tryz.func230, Tryz.ntmps230
  go_wp2_with fail
  generalize w.alloc (.cells #[.string s] 9) = w2 at *
  refine (bytewise_c s _ _ (unitB s) w2 hs (fun _ _ => rfl) ?_).mono ?_
  · intro i hi w' hb'
    exact unit1_c s i _ w' hi hs (V1.out.below hb' V1.out.lt)
  · rintro e wq ⟨rfl, hwq⟩
    have B3 : Hid (Below w.heap.size w wq) := B1.out.trans (hwq.mono B1.out.size)
    clear hwq
    go_wp2_with fail
    go_ret
    exact ⟨by rw [HV.out]; rfl, B3.out⟩
theorem wLink_c (s : ByteArray) (w : World) (hs : s.size ≤ 4000000) : Calls Tryz.prog 231 #[.string s] w fun e w' => e = .returned (.string (linkO s)) ∧ Below w.heap.size w w' := by
  have hmf := mf_run
  have V1 : Hid (VarB (w.alloc (.cells #[.string s] 9)) w.heap.size (.string s) 9) := VarB.new _ _ _
  have B1 : Hid (Below w.heap.size w (w.alloc (.cells #[.string s] 9))) := (Below.refl _ _).alloc (Nat.le_refl _) _
  have c0 := V1.out.c
  obtain ⟨m, Hm⟩ : ∃ m, Hid (joinB (pcs (fun i => plainK (bt s i)) s s.size) = m) := ⟨_, hid rfl⟩
  have HV : Hid (linkO s = joinB [⟨#[117, 114, 108, 40]⟩, m, ⟨#[41]⟩]) := by show _ = _; unfold linkO; rw [outF_all, Hm.out]; simp [joinB, urlO, b1]
  have hms : m.size ≤ 16000000 := by rw [← Hm.out, size_joinB]; have := pcs_total (fun i => plainK (bt s i)) s s.size; omega
  go_enter Tryz.func231, Tryz.ntmps231
  go_wp2_with fail
  generalize w.alloc (.cells #[.string s] 9) = w2 at *
  refine (bytewise_c s _ _ (fun i => plainK (bt s i)) w2 hs (fun _ _ => rfl) ?_).mono ?_
  · intro i hi w' hb'
    exact link1_c s i _ w' hi (V1.out.below hb' V1.out.lt)
  · rw [Hm.out]
    rintro e wq ⟨rfl, hwq⟩
    have B3 : Hid (Below w.heap.size w wq) := B1.out.trans (hwq.mono B1.out.size)
    have hs3 := B3.out.size
    clear hwq c0
    go_wp2_with fail
    refine (Join_c [⟨#[117, 114, 108, 40]⟩, m, ⟨#[41]⟩] wq.heap.size _ _ (row3 wq ⟨#[117, 114, 108, 40]⟩ m ⟨#[41]⟩) (by simp) (by show 4 + (m.size + (1 + 0)) ≤ _; omega)).mono ?_
    rintro e w5 ⟨rfl, hb5⟩
    have B5 : Hid (Below w.heap.size w w5) := (B3.out.alloc hs3 _).trans (hb5.mono (by simp; omega))
    clear hb5
    go_wp2_with fail
    go_ret
    exact ⟨by rw [HV.out]; rfl, B5.out⟩
theorem outF_size (ok : Nat → UInt8 → Bool) : ∀ (l : List UInt8) (i : Nat), (outF ok i l).size ≤ 4 * l.length
  | [], i => by show 0 ≤ _; omega
  | c :: r, i => by
    unfold outF
    rw [ByteArray.size_append]
    have := outF_size ok r (i + 1)
    have h2 : (if ok i c = true then b1 c else escO c).size ≤ 4 := by
      split
      · show 1 ≤ 4; omega
      · show 4 ≤ 4; omega
    simp only [List.length_cons]
    omega
theorem size_list (s : ByteArray) : s.data.toList.length = s.size := Array.length_toList
theorem nameO_size (s : ByteArray) : (nameO s).size ≤ 4 * s.size := by have := outF_size (plainN s) s.data.toList 0; rw [size_list] at this; exact this
theorem unitO_size (s : ByteArray) : (unitO s).size ≤ 4 * s.size := by have := outF_size (fun i c => plainN s i c && !(i == 0 && (c == 101 || c == 69))) s.data.toList 0; rw [size_list] at this; exact this
theorem textO_size (s : ByteArray) : (textO s).size ≤ 4 * s.size + 2 := by
  have := outF_size (fun _ c => plainT c) s.data.toList 0
  rw [size_list] at this
  unfold textO
  rw [ByteArray.size_append, ByteArray.size_append]
  show 1 + (_ + 1) ≤ _
  omega
theorem linkO_size (s : ByteArray) : (linkO s).size ≤ 4 * s.size + 5 := by
  have := outF_size (fun _ c => plainK c) s.data.toList 0
  rw [size_list] at this
  unfold linkO
  rw [ByteArray.size_append, ByteArray.size_append]
  show 4 + (_ + 1) ≤ _
  omega
mutual
def wzN : Nd → Nat
  | .mk t k => 4 * t.word.size + 4 * t.unit.size + 16 + wzL k
def wzL : List Nd → Nat
  | [] => 0
  | n :: r => wzN n + wzL r
end
theorem closing_size (t : Tok) : (closing t).size ≤ 1 := by
  unfold closing
  repeat' split
  all_goals decide
theorem oneO_size (t : Tok) (inn : ByteArray) : (oneO t inn).size ≤ 4 * t.word.size + 4 * t.unit.size + 12 + inn.size := by
  have h1 := nameO_size t.word
  have h2 := unitO_size t.unit
  have h3 := textO_size t.word
  have h4 := linkO_size t.word
  have h5 := closing_size t
  have e : ∀ (c : UInt8), (b1 c).size = 1 := fun _ => rfl
  unfold oneO
  by_cases k1 : t.kind = 1
  · rw [if_pos k1, e]; omega
  rw [if_neg k1]
  by_cases k2 : t.kind = 2
  · rw [if_pos k2]; omega
  rw [if_neg k2]
  by_cases k3 : t.kind = 3
  · rw [if_pos k3]; show 2 ≤ _; omega
  rw [if_neg k3]
  by_cases k4 : t.kind = 4
  · rw [if_pos k4, ByteArray.size_append]; show 1 + _ ≤ _; omega
  rw [if_neg k4]
  by_cases k6 : t.kind = 6
  · rw [if_pos k6, ByteArray.size_append]; show _ + 1 ≤ _; omega
  rw [if_neg k6]
  by_cases k7 : t.kind = 7
  · rw [if_pos k7, ByteArray.size_append]; omega
  rw [if_neg k7]
  by_cases k8 : t.kind = 8
  · rw [if_pos k8]; show 4 ≤ _; omega
  rw [if_neg k8]
  by_cases k9 : t.kind = 9
  · rw [if_pos k9]; show 3 ≤ _; omega
  rw [if_neg k9]
  by_cases k10 : t.kind = 10
  · rw [if_pos k10, ByteArray.size_append]; show 1 + _ ≤ _; omega
  rw [if_neg k10]
  by_cases k11 : t.kind = 11
  · rw [if_pos k11, ByteArray.size_append, ByteArray.size_append, ByteArray.size_append]; show _ + (1 + (_ + 1)) ≤ _; omega
  rw [if_neg k11]
  by_cases k12 : t.kind = 12
  · rw [if_pos k12]; omega
  rw [if_neg k12]
  by_cases k13 : t.kind = 13
  · rw [if_pos k13]; show 6 ≤ _; omega
  rw [if_neg k13]
  by_cases k14 : t.kind = 14
  · rw [if_pos k14]; omega
  rw [if_neg k14]
  by_cases k15 : t.kind = 15
  · rw [if_pos k15, ByteArray.size_append, ByteArray.size_append]; omega
  rw [if_neg k15]
  omega
mutual
theorem writN_size : ∀ (n : Nd), (writN n).size + 4 ≤ wzN n
  | .mk t k => by
    unfold writN wzN
    have := oneO_size t (writF none k)
    have := writF_size none k
    omega
theorem writF_size : ∀ (a : Option Tok) (l : List Nd), (writF a l).size ≤ wzL l
  | a, [] => by unfold writF; show 0 ≤ _; omega
  | a, n :: r => by
    unfold writF wzL
    have h1 := writN_size n
    have h2 := writF_size (some n.t) r
    have h3 : (gapO a n.t).size ≤ 4 := by
      unfold gapO
      split
      · show 0 ≤ 4; omega
      · split
        · show 4 ≤ 4; omega
        · show 0 ≤ 4; omega
    rw [ByteArray.size_append]
    split
    · have : nob.size = 0 := rfl
      omega
    · rw [ByteArray.size_append]; omega
end
end Go.Proofs.YtlliliddljkbfaaGreat
