import Derived.Test.YtlliliddljkbfaaGreatC8
import Derived.Test.YtlliliddljkbfaaGreatC13
import Derived.Test.YtlliliddljkbfaaGreatC15
import Derived.Test.YtlliliddljkbfaaGreatC16
import Derived.Deep.DeepCutAuto
namespace Go.Proofs.YtlliliddljkbfaaGreat
set_option maxHeartbeats 64000000
set_option maxRecDepth 100000
open Go.RowKit Go.Conc Sp
theorem bytesTok : ∃ i, Tryz.prog.info? 93 = some i ∧ i.bytes = 40 := by
  obtain ⟨i, h1, _, _, h4⟩ := info_tok
  exact ⟨i, h1, h4⟩
theorem mkChan (n : Nat) (hn : n ≤ 600) (w : World) : (Instr.makeChan 202 (.int .i64 (n : Int))).run Tryz.prog w = .ok (.chan (some w.heap.size)) (w.alloc (.chan n #[] false 0 0 false)) := by
  obtain ⟨i, hi, hb⟩ := bytesTok
  exact run_makeChan (P := Tryz.prog) (w := w) Tryz.underlying202 hi .i64 n (by omega) (by rw [hb]; omega)
structure Sending (w wr : World) (b c : Nat) (s : ByteArray) (k : Nat) (ts : List Tok) : Prop where
  sc : Sc wr b s k
  chan : wr.heap[c]? = some (.chan s.size (ts.map tokV).toArray false ts.length 0 false)
  below : Below w.heap.size w wr
  ne : b ≠ c
  lob : w.heap.size ≤ b
  loc : w.heap.size ≤ c
  c0 : 0 < c
theorem Sending.clt {w wr : World} {b c : Nat} {s : ByteArray} {k : Nat} {ts : List Tok} (h : Sending w wr b c s k ts) : c < wr.heap.size := (Array.getElem?_eq_some_iff.1 h.chan).1
theorem Sending.went {w wr w' : World} {b c : Nat} {s : ByteArray} {k j : Nat} {ts : List Tok} (h : Sending w wr b c s k ts) (hw : Went b s j wr w') : Sending w w' b c s j ts :=
  ⟨hw.1, by rw [hw.2.block c h.clt h.ne.symm]; exact h.chan, h.below.trans (hw.2.below h.lob h.below.size), h.ne, h.lob, h.loc, h.c0⟩
theorem Sending.drewN {w wr : World} {b c : Nat} {s : ByteArray} {k : Nat} {ts : List Tok} (h : Sending w wr b c s k ts) (n : Nat) : Sending w (wr.drewN n) b c s k ts :=
  h.went ((Went.refl h.sc).drewN n)
theorem heap_setChan_other (w : World) (c cap : Nat) (buf : Array Value) (cl : Bool) (s r : Nat) (tm : Bool) {j : Nat} (h : j ≠ c) : (w.setChan c cap buf cl s r tm).heap[j]? = w.heap[j]? := by
  simp only [World.setChan]; rw [Array.getElem?_setIfInBounds_ne (by omega)]
theorem Sending.sent {w wr : World} {b c : Nat} {s : ByteArray} {k : Nat} {ts : List Tok} (h : Sending w wr b c s k ts) (t : Tok) :
    Sending w (wr.setChan c s.size ((ts.map tokV).toArray.push (tokV t)) false (ts.length + 1) 0 false) b c s k (ts ++ [t]) := by
  have hc := h.c0
  refine ⟨⟨?_, ?_, h.sc.pos, h.sc.len, h.sc.le⟩, ?_, below_setChan h.below h.loc _ _ _ _ _ _, h.ne, h.lob, h.loc, h.c0⟩
  · rw [heap_setChan_other _ _ _ _ _ _ _ _ h.ne]; exact h.sc.blk
  · obtain ⟨m, hm⟩ := h.sc.glob
    exact ⟨m, by rw [← hm]; exact World.cell?_of_block (w := wr) (heap_setChan_other _ _ _ _ _ _ _ _ (by show (0 : Nat) ≠ c; omega))⟩
  · rw [heap_setChan _ _ _ _ _ _ _ _ h.clt]; simp
theorem scanTokens_c (sheet : ByteArray) (w : World) (hs : sheet.size ≤ 600) (hg : ∃ m, w.cell? ⟨0, 0, none⟩ = some (.int .i64 m)) (h0 : 0 < w.heap.size) :
    Calls Tryz.prog 68 #[.string sheet] w fun e w' => ∃ c cap n, e = .returned (.chan (some c)) ∧ w.heap.size ≤ c ∧ w'.heap[c]? = some (.chan cap ((toks (Sp.clean sheet)).map tokV).toArray true n 0 false) ∧ Below w.heap.size w w' := by
  have hcs := clean_size sheet
  have HG : Hid (∃ m, w.cell? ⟨0, 0, none⟩ = some (.int .i64 m)) := hg
  clear hg
  refine calls_of_nwp Tryz.func68 rfl ?_
  simp only [Tryz.ntmps68, List.size_toArray, List.length_cons, List.length_nil, Nat.reduceAdd, Nat.reduceSub, Array.replicate_succ,
     Array.replicate_zero, List.push_toArray, List.append_toArray, List.nil_append, List.cons_append]
  refine nwp_seq (nwp_of_wp ?_)
  go_wp2_with fail
  refine nwp_scope_fwd (fun Q' hF => ?_)
  refine nwp_seq (nwp_of_wp ?_)
  go_wp2_with fail
  refine (clean_c sheet w hs).mono ?_
  rintro e w1 ⟨rfl, hb1⟩
  obtain ⟨s, HS⟩ : ∃ s, Hid (Sp.clean sheet = s) := ⟨_, rfl⟩
  rw [HS.out] at hcs ⊢
  have HB1 : Hid (Below w.heap.size w w1) := hb1
  clear hb1
  go_wp2_with fail
  refine nwp_seq (nwp_of_wp ?_)
  have hmc := mkChan s.size (by omega)
  go_wp2_with fail
  have hw1 : w.heap.size ≤ w1.heap.size := HB1.out.size
  have S0 : Hid (Sending w ((w1.alloc (.cells #[.string s, .int .i64 0] 201)).alloc (.chan s.size #[] false 0 0 false)) w1.heap.size (w1.heap.size + 1) s 0 []) := by
    refine ⟨⟨?_, ?_, by omega, by omega, by omega⟩, ?_, ?_, by omega, by omega, by omega, by omega⟩
    · rw [Below.heap_alloc _ _ _ (by simp)]; exact heap_alloc_new w1 _
    · obtain ⟨m, hm⟩ := HG.out
      refine ⟨m, ?_⟩
      rw [← hm]
      exact ((HB1.out.alloc hw1 _).alloc (by simp; omega) _).cell (p := ⟨0, 0, none⟩) h0
    · have := heap_alloc_new (w1.alloc (.cells #[.string s, .int .i64 0] 201)) (.chan s.size #[] false 0 0 false)
      simpa using this
    · exact (HB1.out.alloc hw1 _).alloc (by simp; omega) _
  refine nwp_seq ?_
  refine nwp_block ?_
  refine nwp_loop (fun n a wr => ∃ (k : Nat) (ts : List Tok) (u12 u13 u14 u15 u16 : Value), a = ⟨#[Value.string sheet, undef, Value.chan none, Value.pointer (some ⟨w1.heap.size, 0, none⟩), Value.chan (some (w1.heap.size + 1)), Value.string sheet, Value.string s, Value.agg #[Value.string s, Value.int .i64 0], Value.pointer (some ⟨w1.heap.size, 0, none⟩), Value.string s, Value.int .i64 (s.size : Int), Value.chan (some (w1.heap.size + 1)), u12, u13, u14, u15, u16, undef, undef], []⟩ ∧ s.size ≤ k + n ∧ ts.length ≤ k ∧ ts ++ tokF s n (com s k) = toks s ∧ Sending w wr w1.heap.size (w1.heap.size + 1) s k ts) s.size ⟨0, [], undef, undef, undef, undef, undef, rfl, by omega, by simp, rfl, S0.out⟩ ?_
  rintro gk _ wr ⟨k, ts, u12, u13, u14, u15, u16, rfl, hk, htl, hts, hS⟩
  have HT : Hid (ts ++ tokF s gk (com s k) = toks s) := hts
  have S1 : Hid (Sending w wr w1.heap.size (w1.heap.size + 1) s k ts) := hS
  clear hts hS S0
  have hkl := S1.out.sc.le
  have hcg := com_ge hkl
  have hcl := com_le hkl
  refine nwp_block ?_
  refine nwp_seq (nwp_of_wp ?_)
  go_wp2_with fail
  refine (passComments_c s w1.heap.size k _ S1.out.sc).mono ?_
  rintro e w2 ⟨rfl, hwent⟩
  have S2 : Hid (Sending w w2 w1.heap.size (w1.heap.size + 1) s (com s k) ts) := S1.out.went hwent
  clear hwent
  obtain ⟨k1, HK⟩ : ∃ k1, Hid (com s k = k1) := ⟨_, rfl⟩
  rw [HK.out] at hcg hcl
  have S3 : Hid (Sending w w2 w1.heap.size (w1.heap.size + 1) s k1 ts) := by have := S2.out; rw [HK.out] at this; exact this
  have HT2 : Hid (ts ++ tokF s gk k1 = toks s) := by have := HT.out; rw [HK.out] at this; exact this
  clear S1 S2 HT
  go_wp2_with fail
  refine nwp_seq (nwp_of_wp ?_)
  by_cases hend : s.size ≤ k1
  · have e0 : (pk s k1 == -1) = true := by rw [pk_out hend]; rfl
    have HV : Hid (ts = toks s) := by
      show ts = toks s
      rw [← HT2.out]
      cases gk with
      | zero => simp [tokF]
      | succ f => unfold tokF; rw [if_pos hend]; simp
    go_wp2_with fail
    refine (peek_c s w1.heap.size k1 _ k1 _ S3.out.sc ⟨by omega, by omega, by omega⟩).mono ?_
    rintro e wq ⟨rfl, nq, rfl⟩
    go_wp2_with fail
    go_step3
    refine hF.go 0 _ _ _ rfl ?_
    clear hF
    have S4 : Hid (Sending w (w2.drewN nq) w1.heap.size (w1.heap.size + 1) s k1 ts) := S3.out.drewN nq
    obtain ⟨w3, hcl, HC, HB⟩ : ∃ w3 : World, (∀ ats ty, (Builtin.close_ ats ty #[.chan (some (w1.heap.size + 1))]).run Tryz.prog (w2.drewN nq) = .ok (.tuple #[]) w3) ∧ Hid (w3.heap[w1.heap.size + 1]? = some (.chan s.size (ts.map tokV).toArray true ts.length 0 false)) ∧ Hid (Below w.heap.size w w3) :=
      ⟨(w2.drewN nq).setChan (w1.heap.size + 1) s.size (ts.map tokV).toArray true ts.length 0 false, fun ats ty => run_close_open (P := Tryz.prog) (w := w2.drewN nq) ats ty S4.out.chan, heap_setChan _ _ _ _ _ _ _ _ S4.out.clt, below_setChan S4.out.below S4.out.loc _ _ _ _ _ _⟩
    go_wp2_with fail
    rw [Exit.noGoto_ret]
    go_ret
    refine ⟨w1.heap.size + 1, s.size, ts.length, rfl, by omega, ?_, HB.out⟩
    rw [HS.out, ← HV.out]
    exact HC.out
  · have e0 : (pk s k1 == -1) = false := by have := pk_nn (s := s) (i := k1) (by omega); simp; omega
    have hlt : k1 < s.size := by omega
    obtain ⟨f, rfl⟩ : ∃ f, gk = f + 1 := ⟨gk - 1, by omega⟩
    have htg := token_gt hlt
    have htle := token_le hlt
    have HV : Hid (ts ++ [(token s k1).1] ++ tokF s f (com s (token s k1).2) = toks s) := by
      show _ = _
      rw [← HT2.out]
      conv => rhs; unfold tokF
      rw [if_neg hend]; simp
    go_wp2_with fail
    refine (peek_c s w1.heap.size k1 _ k1 _ S3.out.sc ⟨by omega, by omega, by omega⟩).mono ?_
    rintro e wq ⟨rfl, nq, rfl⟩
    have S4 : Hid (Sending w (w2.drewN nq) w1.heap.size (w1.heap.size + 1) s k1 ts) := S3.out.drewN nq
    go_wp2_with fail
    refine nwp_region ?_
    show Left _ _ _ [0, 1, 2] _ _
    refine left_value (v := .chan (some (w1.heap.size + 1))) (w' := w2.drewN nq) rfl rfl (by simp [go_sem]) ?_
    refine left_call (f := 114) (args := #[.pointer (some ⟨w1.heap.size, 0, none⟩)]) (w' := w2.drewN nq) (S := fun v w' => v = tokV (token s k1).1 ∧ Went w1.heap.size s (token s k1).2 (w2.drewN nq) w') rfl rfl (by simp [go_sem]) ((token_c s w1.heap.size k1 _ S4.out.sc hlt).mono fun e w' h => ⟨_, h.1, rfl, h.2⟩) ?_
    rintro _ w4 ⟨rfl, hwent⟩
    have S5 : Hid (Sending w w4 w1.heap.size (w1.heap.size + 1) s (token s k1).2 ts) := S4.out.went hwent
    clear hwent
    refine left_send (c := w1.heap.size + 1) (cap := s.size) (s := ts.length) (r := 0) (buf := (ts.map tokV).toArray) (v := tokV (token s k1).1) (z' := .tuple #[]) (tm := false) (w1 := w4) rfl rfl (by simp [go_sem, execOp, scase, Act.eval, Act.put]) S5.out.chan (by simp; omega) ?_
    refine left_nil ?_
    refine ⟨f, by omega, (token s k1).2, ts ++ [(token s k1).1], _, _, _, _, _, rfl, by omega, by simp; omega, HV.out, S5.out.sent _⟩
end Go.Proofs.YtlliliddljkbfaaGreat
namespace Go.Proofs.YtlliliddljkbfaaGreat
set_option maxHeartbeats 64000000
set_option maxRecDepth 100000
open Go.RowKit Go.Conc Sp
def tokCells : List Tok → List Value
  | [] => []
  | t :: r => [.int .i64 t.kind, .string t.word, .string t.unit] ++ tokCells r
end Go.Proofs.YtlliliddljkbfaaGreat
namespace Go.Proofs.YtlliliddljkbfaaGreat
set_option maxHeartbeats 64000000
set_option maxRecDepth 100000
open Go.RowKit Sp
def strOf (l : List UInt8) : ByteArray := ⟨l.toArray⟩
theorem pk_byte {s : ByteArray} {k : Nat} (h : k < s.size) : pk s k = (s[k].toNat : Int) := by unfold pk; rw [dif_pos h]
def allB (p : UInt8 → Bool) (s : ByteArray) : Bool := s.data.toList.all p
def allTo (p : UInt8 → Bool) (s : ByteArray) (k : Nat) : Bool := (s.data.toList.take k).all p
theorem allTo_succ (p : UInt8 → Bool) {s : ByteArray} {k : Nat} (h : k < s.size) : allTo p s (k + 1) = (allTo p s k && p s[k]) := by
  unfold allTo
  have h' : k < s.data.toList.length := by simpa using h
  rw [List.take_succ_eq_append_getElem h', List.all_append]
  simp [ByteArray.getElem_eq_getElem_data]
theorem allTo_all (p : UInt8 → Bool) (s : ByteArray) : allTo p s s.size = allB p s := by
  unfold allTo allB
  rw [List.take_of_length_le (by simp)]
theorem allTo_false (p : UInt8 → Bool) {s : ByteArray} {k : Nat} (h : k < s.size) (hp : p s[k] = false) : allB p s = false := by
  unfold allB
  have h' : k < s.data.toList.length := by simpa using h
  rw [List.all_eq_false]
  exact ⟨s.data.toList[k], List.getElem_mem _, by simpa [ByteArray.getElem_eq_getElem_data] using hp⟩
def pageV (c : UInt8) : Bool := pageB c || c == 32
def pgB (c : Int) : Bool := (decide (97 ≤ c) && decide (c ≤ 122)) || ((decide (48 ≤ c) && decide (c ≤ 57)) || c == 45)
theorem pgB_pk {s : ByteArray} {k : Nat} (h : k < s.size) : pgB (pk s k) = pageB s[k] := by
  rw [pk_byte h]
  unfold pageB pgB
  have e1 : (s[k] == 45) = ((s[k].toNat : Int) == 45) := by
    rw [Bool.eq_iff_iff]
    simp
    constructor
    · rintro h; rw [h]; rfl
    · intro h; exact UInt8.toNat_inj.1 (by have : s[k].toNat = 45 := by omega
                                           rw [this]; rfl)
  rw [e1]
  have e2 : ∀ (n : Nat), decide (n ≤ s[k].toNat) = decide ((n : Int) ≤ (s[k].toNat : Int)) := fun n => by simp
  have e3 : ∀ (n : Nat), decide (s[k].toNat ≤ n) = decide ((s[k].toNat : Int) ≤ (n : Int)) := fun n => by simp
  rw [e2, e2, e3, e3, Bool.or_assoc]
  rfl
theorem isPageByte_c (c : Int) (w : World) : Calls Tryz.prog 224 #[.int .u8 c] w fun e w' => e = .returned (.bool (pgB c)) ∧ w' = w := by
  by_cases h1 : 97 ≤ c
  · by_cases h2 : c ≤ 122
    · have HV : Hid (pgB c = true) := by show _ = _; simp [pgB, h1, h2]
      go_enter Tryz.func224, Tryz.ntmps224
      go_wp2_with fail
      go_ret
      exact ⟨rbool HV.out.symm, rfl⟩
    · have h2' : 122 < c := by omega
      have h3 : 48 ≤ c := by omega
      have h4 : 57 < c := by omega
      have h5 : (c == 45) = false := by simp; omega
      have HV : Hid (pgB c = false) := by show _ = _; unfold pgB; rw [h5, decide_eq_false h2, decide_eq_false (show ¬ c ≤ 57 by omega)]; simp
      clear h2
      go_enter Tryz.func224, Tryz.ntmps224
      go_wp2_with fail
      go_ret
      exact ⟨rbool (by rw [HV.out, decide_eq_false (show ¬ c ≤ 122 by omega), decide_eq_false (show ¬ c ≤ 57 by omega)]; rfl), rfl⟩
  · have h1' : c < 97 := by omega
    by_cases h3 : 48 ≤ c
    · by_cases h4 : c ≤ 57
      · have HV : Hid (pgB c = true) := by show _ = _; simp [pgB, h3, h4]
        clear h1
        go_enter Tryz.func224, Tryz.ntmps224
        go_wp2_with fail
        go_ret
        exact ⟨rbool HV.out.symm, rfl⟩
      · have h4' : 57 < c := by omega
        have h5 : (c == 45) = false := by simp; omega
        have HV : Hid (pgB c = false) := by show _ = _; unfold pgB; rw [h5, decide_eq_false h1, decide_eq_false h4]; simp
        clear h1 h4
        go_enter Tryz.func224, Tryz.ntmps224
        go_wp2_with fail
        go_ret
        exact ⟨rbool (by rw [HV.out, decide_eq_false (show ¬ c ≤ 57 by omega)]), rfl⟩
    · have h3' : c < 48 := by omega
      have HV : Hid (pgB c = (c == 45)) := by show _ = _; unfold pgB; rw [decide_eq_false h1, decide_eq_false h3]; simp
      clear h1 h3
      go_enter Tryz.func224, Tryz.ntmps224
      go_wp2_with fail
      go_ret
      exact ⟨rbool HV.out.symm, rfl⟩
def pnB (s : ByteArray) : Bool := nameP s && !decide (s = nob)
theorem isName_c (s : ByteArray) (w : World) (hs : s.size ≤ maxLen) : Calls Tryz.prog 153 #[.string s] w fun e w' => e = .returned (.bool (pnB s)) ∧ w' = w := by
  unfold maxLen at hs
  cases h0 : (s.toList == ([] : List UInt8))
  · have n0 : ¬ s = nob := by rw [bytes_lit] at h0; simpa [nob] using h0
    have HV0 : Hid (pnB s = nameP s) := by show _ = _; unfold pnB; rw [decide_eq_false n0]; simp
    clear n0
    by_cases h12 : 12 < s.size
    · have h12' : (12 : Int) < (s.size : Int) := by omega
      have HV : Hid (pnB s = false) := by show _ = _; rw [HV0.out]; unfold nameP; rw [decide_eq_false (show ¬ s.size ≤ 12 by omega)]; simp
      go_enter Tryz.func153, Tryz.ntmps153
      go_wp2_with fail
      go_ret
      exact ⟨rbool HV.out.symm, rfl⟩
    · have h12' : (s.size : Int) ≤ 12 := by omega
      have HV1 : Hid (pnB s = allB pageB s) := by show _ = _; rw [HV0.out]; unfold nameP allB; rw [decide_eq_true (show s.size ≤ 12 by omega)]; simp
      go_enter Tryz.func153, Tryz.ntmps153
      go_wp2_with fail
      go_loopg [13] s.size (fun g v wr => ∃ k : Nat, k + g = s.size ∧ v = .int .i64 (k : Int) ∧ Aside (allTo pageB s k = true ∧ wr = w))
      case atStart => exact ⟨0, by omega, rfl, rfl, rfl⟩
      case round =>
        obtain ⟨k, hk, rfl, hA⟩ := hrel
        have HA : Hid (allTo pageB s k = true) := hA.out.1
        obtain rfl := hA.out.2
        clear hA
        by_cases hlt : k < s.size
        · have h1 : (k : Int) < (s.size : Int) := by omega
          have hix := index_pk s k hlt
          have hpb := pgB_pk hlt
          obtain ⟨z, Hz⟩ : ∃ z, Hid (pageB s[k] = z) := ⟨_, hid rfl⟩
          have HPB : Hid (pgB (pk s k) = z) := by rw [← Hz.out]; exact hpb
          clear hpb
          go_wp2_with fail
          refine (isPageByte_c _ _).mono ?_
          rw [HPB.out]
          rintro e w1 ⟨rfl, rfl⟩
          cases z
          · have HV : Hid (pnB s = false) := by show _ = _; rw [HV1.out]; exact allTo_false pageB hlt Hz.out
            go_wp2_with fail
            go_ret
            exact ⟨rbool HV.out.symm, rfl⟩
          · have HN : Hid (allTo pageB s (k + 1) = true) := by show _ = _; rw [allTo_succ pageB hlt, HA.out, Hz.out]; rfl
            go_wp2_with fail
            go_roundg (s.size - (k + 1))
            case measure => omega
            case rel => exact ⟨k + 1, by omega, by congr 1, HN.out, rfl⟩
        · have h1 : (s.size : Int) ≤ (k : Int) := by omega
          have HV : Hid (pnB s = true) := by
            show _ = _
            rw [HV1.out, ← allTo_all]
            have : k = s.size := by omega
            rw [← this]; exact HA.out
          go_wp2_with fail
          go_ret
          exact ⟨rbool HV.out.symm, rfl⟩
  · have n0 : s = nob := by rw [bytes_lit] at h0; simpa [nob] using h0
    have HV : Hid (pnB s = false) := by show _ = _; unfold pnB; rw [decide_eq_true n0]; simp
    clear n0
    go_enter Tryz.func153, Tryz.ntmps153
    go_wp2_with fail
    go_ret
    exact ⟨rbool HV.out.symm, rfl⟩
def parB (q : Int) (i : Nat) : Bool := if i = 0 then q == -1 else decide (0 ≤ q) && decide (q < i)
theorem isParent_c (q : Int) (i : Nat) (w : World) : Calls Tryz.prog 89 #[.int .i64 q, .int .i64 (i : Int)] w fun e w' => e = .returned (.bool (parB q i)) ∧ w' = w := by
  by_cases h0 : i = 0
  · subst h0
    have hz : (((0 : Nat) : Int) == 0) = true := rfl
    have HV : Hid (parB q 0 = (q == -1)) := rfl
    go_enter Tryz.func89, Tryz.ntmps89
    go_wp2_with fail
    go_ret
    exact ⟨rbool HV.out.symm, rfl⟩
  · have hz : ((i : Int) == 0) = false := by simp; omega
    by_cases h1 : 0 ≤ q
    · have HV : Hid (parB q i = decide (q < (i : Int))) := by show _ = _; unfold parB; rw [if_neg h0, decide_eq_true h1]; rfl
      clear h0
      go_enter Tryz.func89, Tryz.ntmps89
      go_wp2_with fail
      go_ret
      exact ⟨rbool HV.out.symm, rfl⟩
    · have h1' : q < 0 := by omega
      have HV : Hid (parB q i = false) := by show _ = _; unfold parB; rw [if_neg h0, decide_eq_false h1]; rfl
      clear h0 h1
      go_enter Tryz.func89, Tryz.ntmps89
      go_wp2_with fail
      go_ret
      exact ⟨rbool HV.out.symm, rfl⟩
theorem sp_pk {s : ByteArray} {k : Nat} (h : k < s.size) : (s[k] == 32) = (pk s k == 32) := by
  rw [pk_byte h, Bool.eq_iff_iff]
  simp
  constructor
  · rintro h; rw [h]; rfl
  · intro h; exact UInt8.toNat_inj.1 (by have : s[k].toNat = 32 := by omega
                                         rw [this]; rfl)
theorem isAttrValue_c (s : ByteArray) (w : World) (hs : s.size ≤ maxLen) : Calls Tryz.prog 154 #[.string s] w fun e w' => e = .returned (.bool (valueP s)) ∧ w' = w := by
  unfold maxLen at hs
  by_cases h24 : 24 < s.size
  · have h24' : (24 : Int) < (s.size : Int) := by omega
    have HV : Hid (valueP s = false) := by show _ = _; unfold valueP; rw [decide_eq_false (show ¬ s.size ≤ 24 by omega)]; simp
    go_enter Tryz.func154, Tryz.ntmps154
    go_wp2_with fail
    go_ret
    exact ⟨rbool HV.out.symm, rfl⟩
  · have h24' : (s.size : Int) ≤ 24 := by omega
    have HV1 : Hid (valueP s = allB (fun c => pageB c || c == 32) s) := by show _ = _; unfold valueP allB; rw [decide_eq_true (show s.size ≤ 24 by omega)]; simp
    go_enter Tryz.func154, Tryz.ntmps154
    go_wp2_with fail
    go_loopg [9] s.size (fun g v wr => ∃ k : Nat, k + g = s.size ∧ v = .int .i64 (k : Int) ∧ Aside (allTo (fun c => pageB c || c == 32) s k = true ∧ wr = w))
    case atStart => exact ⟨0, by omega, rfl, rfl, rfl⟩
    case round =>
      obtain ⟨k, hk, rfl, hA⟩ := hrel
      have HA : Hid (allTo (fun c => pageB c || c == 32) s k = true) := hA.out.1
      obtain rfl := hA.out.2
      clear hA
      by_cases hlt : k < s.size
      · have h1 : (k : Int) < (s.size : Int) := by omega
        have hix := index_pk s k hlt
        obtain ⟨z, Hz⟩ : ∃ z, Hid (pageB s[k] = z) := ⟨_, hid rfl⟩
        have HPB : Hid (pgB (pk s k) = z) := by rw [← Hz.out]; exact pgB_pk hlt
        have HSP : Hid ((s[k] == 32) = (pk s k == 32)) := sp_pk hlt
        cases hsp : (pk s k != 32)
        · have HN : Hid (allTo (fun c => pageB c || c == 32) s (k + 1) = true) := by
            show _ = _
            have h32 : (pk s k == 32) = true := by simpa using hsp
            rw [allTo_succ _ hlt, HA.out, HSP.out, h32]; simp
          go_wp2_with fail
          go_roundg (s.size - (k + 1))
          case measure => omega
          case rel => exact ⟨k + 1, by omega, by congr 1, HN.out, rfl⟩
        · have h32 : (pk s k == 32) = false := by simpa using hsp
          have H32 : Hid ((pk s k == 32) = false) := h32
          clear h32
          go_wp2_with fail
          refine (isPageByte_c _ _).mono ?_
          rw [HPB.out]
          rintro e w1 ⟨rfl, rfl⟩
          cases z
          · have HV : Hid (valueP s = false) := by show _ = _; rw [HV1.out]; exact allTo_false _ hlt (by rw [Hz.out, HSP.out, H32.out]; rfl)
            go_wp2_with fail
            go_ret
            exact ⟨rbool HV.out.symm, rfl⟩
          · have HN : Hid (allTo (fun c => pageB c || c == 32) s (k + 1) = true) := by show _ = _; rw [allTo_succ _ hlt, HA.out, Hz.out]; rfl
            go_wp2_with fail
            go_roundg (s.size - (k + 1))
            case measure => omega
            case rel => exact ⟨k + 1, by omega, by congr 1, HN.out, rfl⟩
      · have h1 : (s.size : Int) ≤ (k : Int) := by omega
        have HV : Hid (valueP s = true) := by
          show _ = _
          rw [HV1.out, ← allTo_all]
          have : k = s.size := by omega
          rw [← this]; exact HA.out
        go_wp2_with fail
        go_ret
        exact ⟨rbool HV.out.symm, rfl⟩
def CStr : Law ByteArray := fun _ _ s cs => cs = [.string s] ∧ s.size ≤ 4194304
def CAtt : Law (ByteArray × ByteArray) := fun _ _ a cs => cs = [.string a.1, .string a.2] ∧ a.1.size ≤ 4194304 ∧ a.2.size ≤ 4194304
def CEl : Law Elem := fun S w x cs => ∃ cv av, cs = [.int .i64 x.parent, .string x.tag, .string x.id, cv, av] ∧ SG CStr 1 S w cv x.classes ∧ SG CAtt 2 S w av x.attrs ∧ x.tag.size ≤ 4194304 ∧ x.id.size ≤ 4194304 ∧ -9223372036854775808 ≤ x.parent ∧ x.parent ≤ 9223372036854775807
theorem CStr.fair : Fair CStr := fun _ _ _ _ _ _ _ _ h => h
theorem CAtt.fair : Fair CAtt := fun _ _ _ _ _ _ _ _ h => h
theorem CStr.sized : Sized CStr 1 := by rintro S w x cs ⟨rfl, _⟩; rfl
theorem CAtt.sized : Sized CAtt 2 := by rintro S w x cs ⟨rfl, _⟩; rfl
theorem CEl.fair : Fair CEl := by
  rintro S S' w w' x cs hS hw ⟨cv, av, h1, h2, h3, h4⟩
  exact ⟨cv, av, h1, h2.keep CStr.fair hS hw, h3.keep CAtt.fair hS hw, h4⟩
theorem CEl.sized : Sized CEl 5 := by rintro S w x cs ⟨cv, av, rfl, _⟩; rfl
structure ElAt (S : Nat → Prop) (w : World) (x : Elem) (g o : Nat) (cv av : Value) : Prop where
  s : S g
  c0 : w.cell? ⟨g, o, none⟩ = some (.int .i64 x.parent)
  c1 : w.cell? ⟨g, o + 1, none⟩ = some (.string x.tag)
  c2 : w.cell? ⟨g, o + 2, none⟩ = some (.string x.id)
  c3 : w.cell? ⟨g, o + 3, none⟩ = some cv
  c4 : w.cell? ⟨g, o + 4, none⟩ = some av
  cl : SG CStr 1 S w cv x.classes
  at_ : SG CAtt 2 S w av x.attrs
  tag : x.tag.size ≤ 4194304
  id : x.id.size ≤ 4194304
  lo : -9223372036854775808 ≤ x.parent
  hi : x.parent ≤ 9223372036854775807
theorem EG.el {S : Nat → Prop} {w : World} {x : Elem} {g o : Nat} (h : EG CEl S w x g o) : ∃ cv av, ElAt S w x g o cv av := by
  obtain ⟨h0, cs, ⟨cv, av, rfl, h2, h3, h4, h5, h6, h7⟩, hc⟩ := h
  exact ⟨cv, av, h0, hc 0 _ rfl, hc 1 _ rfl, hc 2 _ rfl, hc 3 _ rfl, hc 4 _ rfl, h2, h3, h4, h5, h6, h7⟩
theorem LG.el {S : Nat → Prop} {w : World} {l : List Elem} {g o i : Nat} (h : LG CEl 5 S w l g o) (hi : i < l.length) : ∃ cv av, ElAt S w l[i] g (o + i * 5) cv av := (h.at l g o i hi).el
theorem LG.str {S : Nat → Prop} {w : World} {l : List ByteArray} {g o i : Nat} (h : LG CStr 1 S w l g o) (hi : i < l.length) : S g ∧ w.cell? ⟨g, o + i, none⟩ = some (.string l[i]) ∧ l[i].size ≤ 4194304 := by
  obtain ⟨h0, cs, ⟨rfl, h2⟩, hc⟩ := h.at l g o i hi
  have := hc 0 _ rfl
  rw [Nat.mul_one, Nat.add_zero] at this
  exact ⟨h0, this, h2⟩
theorem LG.att {S : Nat → Prop} {w : World} {l : List (ByteArray × ByteArray)} {g o i : Nat} (h : LG CAtt 2 S w l g o) (hi : i < l.length) : S g ∧ w.cell? ⟨g, o + i * 2, none⟩ = some (.string l[i].1) ∧ w.cell? ⟨g, o + i * 2 + 1, none⟩ = some (.string l[i].2) ∧ l[i].1.size ≤ 4194304 ∧ l[i].2.size ≤ 4194304 := by
  obtain ⟨h0, cs, ⟨rfl, h2, h3⟩, hc⟩ := h.at l g o i hi
  exact ⟨h0, hc 0 _ rfl, hc 1 _ rfl, h2, h3⟩
def classP (c : ByteArray) : Bool := nameP c && !decide (c = nob)
def attP (a : ByteArray × ByteArray) : Bool := nameP a.1 && valueP a.2 && !decide (a.1 = nob)
def parP (i : Nat) (x : Elem) : Bool := if i = 0 then x.parent == -1 else decide (0 ≤ x.parent) && decide (x.parent < i)
def headP (i : Nat) (x : Elem) : Bool := nameP x.tag && !decide (x.tag = nob) && nameP x.id && decide (x.classes.length ≤ 4) && decide (x.attrs.length ≤ 4) && parP i x
theorem elemP_eq (i : Nat) (x : Elem) : elemP i x = (headP i x && x.classes.all classP && x.attrs.all attP) := rfl
theorem elemsP_drop : ∀ (p : Page) (i k : Nat) (h : k < p.length), elemsP i (p.drop k) = (elemP i p[k] && elemsP (i + 1) (p.drop (k + 1)))
  | p, i, k, h => by rw [List.drop_eq_getElem_cons h]; rfl
def XE (w : World) (g : Nat) (x : Elem) (cv av : Value) : Prop := w.heap[g]? = some (.cells #[.int .i64 x.parent, .string x.tag, .string x.id, cv, av] 35 (0, 0))
theorem XE.cs {w : World} {g : Nat} {x : Elem} {cv av : Value} (h : XE w g x cv av) : w.cell? ⟨g, 0, none⟩ = some (.int .i64 x.parent) ∧ w.cell? ⟨g, 1, none⟩ = some (.string x.tag) ∧ w.cell? ⟨g, 2, none⟩ = some (.string x.id) ∧ w.cell? ⟨g, 3, none⟩ = some cv ∧ w.cell? ⟨g, 4, none⟩ = some av := by
  refine ⟨?_, ?_, ?_, ?_, ?_⟩ <;> (unfold World.cell?; rw [h]; rfl)
theorem all_take {α : Type} (f : α → Bool) (l : List α) (k : Nat) (h : k < l.length) (h1 : (l.take k).all f = true) (h2 : f l[k] = true) : (l.take (k + 1)).all f = true := by
  rw [List.take_succ_eq_append_getElem h, List.all_append, h1]; simp [h2]
theorem all_no {α : Type} (f : α → Bool) (l : List α) (k : Nat) (h : k < l.length) (h2 : f l[k] = false) : l.all f = false := by
  rw [List.all_eq_false]; exact ⟨l[k], List.getElem_mem _, by simp [h2]⟩
end Go.Proofs.YtlliliddljkbfaaGreat
