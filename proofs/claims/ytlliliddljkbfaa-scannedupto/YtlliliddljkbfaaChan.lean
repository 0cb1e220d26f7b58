/-
  scan.Tokens: the tokens go over a channel that has room for all and is closed.
-/
import Derived.Test.YtlliliddljkbfaaToken
import Derived.Test.YtlliliddljkbfaaClean
import Derived.Test.YtlliliddljkbfaaNwp
namespace Go.Proofs.Ytlliliddljkbfaa
open Go.RowKit Go.Conc Sp
set_option maxRecDepth 100000

theorem bytesTok : ∃ i, Try.prog.info? 35 = some i ∧ i.bytes = 40 := by
  obtain ⟨i, h1, _, _, h4⟩ := info_tok
  exact ⟨i, h1, h4⟩
theorem mkChan (n : Nat) (hn : n ≤ 600) (w : World) : (Instr.makeChan 42 (.int .i64 (n : Int))).run Try.prog w = .ok (.chan (some w.heap.size)) (w.alloc (.chan n #[] false 0 0 false)) := by
  obtain ⟨i, hi, hb⟩ := bytesTok
  exact run_makeChan (P := Try.prog) (w := w) Try.underlying42 hi .i64 n (by omega) (by rw [hb]; omega)

/-- The scanner in block b, the channel in block c, so many tokens sent. -/
structure Sending (w wr : World) (b c : Nat) (s : ByteArray) (k : Nat) (ts : List Tok) : Prop where
  sc : Sc wr b s k
  chan : wr.heap[c]? = some (.chan s.size (ts.map tokV).toArray false ts.length 0 false)
  below : Below w.heap.size w wr
  ne : b ≠ c
  lob : w.heap.size ≤ b
  loc : w.heap.size ≤ c
  c0 : 0 < c
theorem Sending.clt {w wr : World} {b c : Nat} {s : ByteArray} {k : Nat} {ts : List Tok} (h : Sending w wr b c s k ts) : c < wr.heap.size := (Array.getElem?_eq_some_iff.1 h.chan).1
theorem Sending.went {w wr w' : World} {b c : Nat} {s : ByteArray} {k j : Nat} {ts : List Tok} (h : Sending w wr b c s k ts) (hw : Went b s j wr w') : Sending w w' b c s j ts :=
  ⟨hw.1, by rw [hw.2.block c h.clt h.ne.symm]; exact h.chan, h.below.trans (hw.2.below h.lob h.below.size), h.ne, h.lob, h.loc, h.c0⟩
theorem Sending.drewN {w wr : World} {b c : Nat} {s : ByteArray} {k : Nat} {ts : List Tok} (h : Sending w wr b c s k ts) (n : Nat) : Sending w (wr.drewN n) b c s k ts :=
  h.went ((Went.refl h.sc).drewN n)
theorem heap_setChan_other (w : World) (c cap : Nat) (buf : Array Value) (cl : Bool) (s r : Nat) (tm : Bool) {j : Nat} (h : j ≠ c) : (w.setChan c cap buf cl s r tm).heap[j]? = w.heap[j]? := by
  simp only [World.setChan]; rw [Array.getElem?_setIfInBounds_ne (by omega)]
theorem Sending.sent {w wr : World} {b c : Nat} {s : ByteArray} {k : Nat} {ts : List Tok} (h : Sending w wr b c s k ts) (t : Tok) :
    Sending w (wr.setChan c s.size ((ts.map tokV).toArray.push (tokV t)) false (ts.length + 1) 0 false) b c s k (ts ++ [t]) := by
  have hc := h.c0
  refine ⟨⟨?_, ?_, h.sc.pos, h.sc.len, h.sc.le⟩, ?_, below_setChan h.below h.loc _ _ _ _ _ _, h.ne, h.lob, h.loc, h.c0⟩
  · rw [heap_setChan_other _ _ _ _ _ _ _ _ h.ne]; exact h.sc.blk
  · obtain ⟨m, hm⟩ := h.sc.glob
    exact ⟨m, by rw [← hm]; exact World.cell?_of_block (w := wr) (heap_setChan_other _ _ _ _ _ _ _ _ (by show (0 : Nat) ≠ c; omega))⟩
  · rw [heap_setChan _ _ _ _ _ _ _ _ h.clt]; simp

set_option maxHeartbeats 1000000 in
theorem scanTokens_c (sheet : ByteArray) (w : World) (hs : sheet.size ≤ 600) (hg : ∃ m, w.cell? ⟨0, 0, none⟩ = some (.int .i64 m)) (h0 : 0 < w.heap.size) :
    Calls Try.prog 9 #[.string sheet] w fun e w' => ∃ c cap n, e = .returned (.chan (some c)) ∧ w.heap.size ≤ c ∧ w'.heap[c]? = some (.chan cap ((toks (Sp.clean sheet)).map tokV).toArray true n 0 false) ∧ Below w.heap.size w w' := by
  have hcs := clean_size sheet
  have HG : Hid (∃ m, w.cell? ⟨0, 0, none⟩ = some (.int .i64 m)) := hg
  clear hg
  refine calls_of_nwp Try.func9 rfl ?_
  simp only [Try.ntmps9, List.size_toArray, List.length_cons, List.length_nil, Nat.reduceAdd, Nat.reduceSub, Array.replicate_succ,
     Array.replicate_zero, List.push_toArray, List.append_toArray, List.nil_append, List.cons_append]
  refine nwp_seq (nwp_of_wp ?_)
  go_wp2_with fail
  refine nwp_scope_fwd (fun Q' hF => ?_)
  refine nwp_seq (nwp_of_wp ?_)
  go_wp2_with fail
  refine (clean_c sheet w hs).mono ?_
  rintro e w1 ⟨rfl, hb1⟩
  obtain ⟨s, HS⟩ : ∃ s, Hid (Sp.clean sheet = s) := ⟨_, rfl⟩
  rw [HS.out] at hcs ⊢
  have HB1 : Hid (Below w.heap.size w w1) := hb1
  clear hb1
  go_wp2_with fail
  refine nwp_seq (nwp_of_wp ?_)
  have hmc := mkChan s.size (by omega)
  go_wp2_with fail
  have hw1 : w.heap.size ≤ w1.heap.size := HB1.out.size
  have S0 : Hid (Sending w ((w1.alloc (.cells #[.string s, .int .i64 0] 41)).alloc (.chan s.size #[] false 0 0 false)) w1.heap.size (w1.heap.size + 1) s 0 []) := by
    refine ⟨⟨?_, ?_, by omega, by omega, by omega⟩, ?_, ?_, by omega, by omega, by omega, by omega⟩
    · rw [Below.heap_alloc _ _ _ (by simp)]; exact heap_alloc_new w1 _
    · obtain ⟨m, hm⟩ := HG.out
      refine ⟨m, ?_⟩
      rw [← hm]
      exact ((HB1.out.alloc hw1 _).alloc (by simp; omega) _).cell (p := ⟨0, 0, none⟩) h0
    · have := heap_alloc_new (w1.alloc (.cells #[.string s, .int .i64 0] 41)) (.chan s.size #[] false 0 0 false)
      simpa using this
    · exact (HB1.out.alloc hw1 _).alloc (by simp; omega) _
  refine nwp_seq ?_
  refine nwp_block ?_
  refine nwp_loop (fun n a wr => ∃ (k : Nat) (ts : List Tok) (u12 u13 u14 u15 u16 : Value), a = ⟨#[Value.string sheet, undef, Value.chan none, Value.pointer (some ⟨w1.heap.size, 0, none⟩), Value.chan (some (w1.heap.size + 1)), Value.string sheet, Value.string s, Value.agg #[Value.string s, Value.int .i64 0], Value.pointer (some ⟨w1.heap.size, 0, none⟩), Value.string s, Value.int .i64 (s.size : Int), Value.chan (some (w1.heap.size + 1)), u12, u13, u14, u15, u16, undef, undef], []⟩ ∧ s.size ≤ k + n ∧ ts.length ≤ k ∧ ts ++ tokF s n (com s k) = toks s ∧ Sending w wr w1.heap.size (w1.heap.size + 1) s k ts) s.size ⟨0, [], undef, undef, undef, undef, undef, rfl, by omega, by simp, rfl, S0.out⟩ ?_
  rintro gk _ wr ⟨k, ts, u12, u13, u14, u15, u16, rfl, hk, htl, hts, hS⟩
  have HT : Hid (ts ++ tokF s gk (com s k) = toks s) := hts
  have S1 : Hid (Sending w wr w1.heap.size (w1.heap.size + 1) s k ts) := hS
  clear hts hS S0
  have hkl := S1.out.sc.le
  have hcg := com_ge hkl
  have hcl := com_le hkl
  refine nwp_block ?_
  refine nwp_seq (nwp_of_wp ?_)
  go_wp2_with fail
  refine (passComments_c s w1.heap.size k _ S1.out.sc).mono ?_
  rintro e w2 ⟨rfl, hwent⟩
  have S2 : Hid (Sending w w2 w1.heap.size (w1.heap.size + 1) s (com s k) ts) := S1.out.went hwent
  clear hwent
  obtain ⟨k1, HK⟩ : ∃ k1, Hid (com s k = k1) := ⟨_, rfl⟩
  rw [HK.out] at hcg hcl
  have S3 : Hid (Sending w w2 w1.heap.size (w1.heap.size + 1) s k1 ts) := by have := S2.out; rw [HK.out] at this; exact this
  have HT2 : Hid (ts ++ tokF s gk k1 = toks s) := by have := HT.out; rw [HK.out] at this; exact this
  clear S1 S2 HT
  go_wp2_with fail
  refine nwp_seq (nwp_of_wp ?_)
  by_cases hend : s.size ≤ k1
  · have e0 : (pk s k1 == -1) = true := by rw [pk_out hend]; rfl
    have HV : Hid (ts = toks s) := by
      show ts = toks s
      rw [← HT2.out]
      cases gk with
      | zero => simp [tokF]
      | succ f => unfold tokF; rw [if_pos hend]; simp
    go_wp2_with fail
    refine (peek_c s w1.heap.size k1 _ k1 _ S3.out.sc ⟨by omega, by omega, by omega⟩).mono ?_
    rintro e wq ⟨rfl, nq, rfl⟩
    go_wp2_with fail
    go_step3
    refine hF.go 0 _ _ _ rfl ?_
    clear hF
    have S4 : Hid (Sending w (w2.drewN nq) w1.heap.size (w1.heap.size + 1) s k1 ts) := S3.out.drewN nq
    obtain ⟨w3, hcl, HC, HB⟩ : ∃ w3 : World, (∀ ats ty, (Builtin.close_ ats ty #[.chan (some (w1.heap.size + 1))]).run Try.prog (w2.drewN nq) = .ok (.tuple #[]) w3) ∧ Hid (w3.heap[w1.heap.size + 1]? = some (.chan s.size (ts.map tokV).toArray true ts.length 0 false)) ∧ Hid (Below w.heap.size w w3) :=
      ⟨(w2.drewN nq).setChan (w1.heap.size + 1) s.size (ts.map tokV).toArray true ts.length 0 false, fun ats ty => run_close_open (P := Try.prog) (w := w2.drewN nq) ats ty S4.out.chan, heap_setChan _ _ _ _ _ _ _ _ S4.out.clt, below_setChan S4.out.below S4.out.loc _ _ _ _ _ _⟩
    go_wp2_with fail
    rw [Exit.noGoto_ret]
    go_ret
    refine ⟨w1.heap.size + 1, s.size, ts.length, rfl, by omega, ?_, HB.out⟩
    rw [HS.out, ← HV.out]
    exact HC.out
  · have e0 : (pk s k1 == -1) = false := by have := pk_nn (s := s) (i := k1) (by omega); simp; omega
    have hlt : k1 < s.size := by omega
    obtain ⟨f, rfl⟩ : ∃ f, gk = f + 1 := ⟨gk - 1, by omega⟩
    have htg := token_gt hlt
    have htle := token_le hlt
    have HV : Hid (ts ++ [(token s k1).1] ++ tokF s f (com s (token s k1).2) = toks s) := by
      show _ = _
      rw [← HT2.out]
      conv => rhs; unfold tokF
      rw [if_neg hend]; simp
    go_wp2_with fail
    refine (peek_c s w1.heap.size k1 _ k1 _ S3.out.sc ⟨by omega, by omega, by omega⟩).mono ?_
    rintro e wq ⟨rfl, nq, rfl⟩
    have S4 : Hid (Sending w (w2.drewN nq) w1.heap.size (w1.heap.size + 1) s k1 ts) := S3.out.drewN nq
    go_wp2_with fail
    refine nwp_region ?_
    show Left _ _ _ [0, 1, 2] _ _
    refine left_value (v := .chan (some (w1.heap.size + 1))) (w' := w2.drewN nq) rfl rfl (by simp [go_sem]) ?_
    refine left_call (f := 14) (args := #[.pointer (some ⟨w1.heap.size, 0, none⟩)]) (w' := w2.drewN nq) (S := fun v w' => v = tokV (token s k1).1 ∧ Went w1.heap.size s (token s k1).2 (w2.drewN nq) w') rfl rfl (by simp [go_sem]) ((token_c s w1.heap.size k1 _ S4.out.sc hlt).mono fun e w' h => ⟨_, h.1, rfl, h.2⟩) ?_
    rintro _ w4 ⟨rfl, hwent⟩
    have S5 : Hid (Sending w w4 w1.heap.size (w1.heap.size + 1) s (token s k1).2 ts) := S4.out.went hwent
    clear hwent
    refine left_send (c := w1.heap.size + 1) (cap := s.size) (s := ts.length) (r := 0) (buf := (ts.map tokV).toArray) (v := tokV (token s k1).1) (z' := .tuple #[]) (tm := false) (w1 := w4) rfl rfl (by simp [go_sem, execOp, scase, Act.eval, Act.put]) S5.out.chan (by simp; omega) ?_
    refine left_nil ?_
    refine ⟨f, by omega, (token s k1).2, ts ++ [(token s k1).1], _, _, _, _, _, rfl, by omega, by simp; omega, HV.out, S5.out.sent _⟩
end Go.Proofs.Ytlliliddljkbfaa
