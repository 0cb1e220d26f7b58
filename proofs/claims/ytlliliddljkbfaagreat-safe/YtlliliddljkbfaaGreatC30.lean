import Derived.Test.YtlliliddljkbfaaGreatC11
import Derived.Test.YtlliliddljkbfaaGreatC23
import Derived.Test.YtlliliddljkbfaaGreatC27
import Derived.Test.YtlliliddljkbfaaGreatC28
import Derived.Test.YtlliliddljkbfaaGreatC29
import Derived.Deep.DeepCutAuto
namespace Go.Proofs.YtlliliddljkbfaaGreat
set_option maxHeartbeats 64000000
set_option maxRecDepth 100000
open Go.RowKit Go.Conc Sp
theorem bytesTok : ∃ i, Tryz.prog.info? 93 = some i ∧ i.bytes = 40 := by
  obtain ⟨i, h1, _, _, h4⟩ := info_tok
  exact ⟨i, h1, h4⟩
theorem mkChan (n : Nat) (hn : n ≤ 600) (w : World) : (Instr.makeChan 202 (.int .i64 (n : Int))).run Tryz.prog w = .ok (.chan (some w.heap.size)) (w.alloc (.chan n #[] false 0 0 false)) := by
  obtain ⟨i, hi, hb⟩ := bytesTok
  exact run_makeChan (P := Tryz.prog) (w := w) Tryz.underlying202 hi .i64 n (by omega) (by rw [hb]; omega)
structure Sending (w wr : World) (b c : Nat) (s : ByteArray) (k : Nat) (ts : List Tok) : Prop where
  sc : Sc wr b s k
  chan : wr.heap[c]? = some (.chan s.size (ts.map tokV).toArray false ts.length 0 false)
  below : Below w.heap.size w wr
  ne : b ≠ c
  lob : w.heap.size ≤ b
  loc : w.heap.size ≤ c
  c0 : 0 < c
theorem Sending.clt {w wr : World} {b c : Nat} {s : ByteArray} {k : Nat} {ts : List Tok} (h : Sending w wr b c s k ts) : c < wr.heap.size := (Array.getElem?_eq_some_iff.1 h.chan).1
theorem Sending.went {w wr w' : World} {b c : Nat} {s : ByteArray} {k j : Nat} {ts : List Tok} (h : Sending w wr b c s k ts) (hw : Went b s j wr w') : Sending w w' b c s j ts :=
  ⟨hw.1, by rw [hw.2.block c h.clt h.ne.symm]; exact h.chan, h.below.trans (hw.2.below h.lob h.below.size), h.ne, h.lob, h.loc, h.c0⟩
theorem Sending.drewN {w wr : World} {b c : Nat} {s : ByteArray} {k : Nat} {ts : List Tok} (h : Sending w wr b c s k ts) (n : Nat) : Sending w (wr.drewN n) b c s k ts :=
  h.went ((Went.refl h.sc).drewN n)
theorem heap_setChan_other (w : World) (c cap : Nat) (buf : Array Value) (cl : Bool) (s r : Nat) (tm : Bool) {j : Nat} (h : j ≠ c) : (w.setChan c cap buf cl s r tm).heap[j]? = w.heap[j]? := by
  simp only [World.setChan]; rw [Array.getElem?_setIfInBounds_ne (by omega)]
theorem Sending.sent {w wr : World} {b c : Nat} {s : ByteArray} {k : Nat} {ts : List Tok} (h : Sending w wr b c s k ts) (t : Tok) :
    Sending w (wr.setChan c s.size ((ts.map tokV).toArray.push (tokV t)) false (ts.length + 1) 0 false) b c s k (ts ++ [t]) := by
  have hc := h.c0
  refine ⟨⟨?_, ?_, h.sc.pos, h.sc.len, h.sc.le⟩, ?_, below_setChan h.below h.loc _ _ _ _ _ _, h.ne, h.lob, h.loc, h.c0⟩
  · rw [heap_setChan_other _ _ _ _ _ _ _ _ h.ne]; exact h.sc.blk
  · obtain ⟨m, hm⟩ := h.sc.glob
    exact ⟨m, by rw [← hm]; exact World.cell?_of_block (w := wr) (heap_setChan_other _ _ _ _ _ _ _ _ (by show (0 : Nat) ≠ c; omega))⟩
  · rw [heap_setChan _ _ _ _ _ _ _ _ h.clt]; simp
theorem scanTokens_c (sheet : ByteArray) (w : World) (hs : sheet.size ≤ 600) (hg : ∃ m, w.cell? ⟨0, 0, none⟩ = some (.int .i64 m)) (h0 : 0 < w.heap.size) :
    Calls Tryz.prog 68 #[.string sheet] w fun e w' => ∃ c cap n, e = .returned (.chan (some c)) ∧ w.heap.size ≤ c ∧ w'.heap[c]? = some (.chan cap ((toks (Sp.clean sheet)).map tokV).toArray true n 0 false) ∧ Below w.heap.size w w' := by
  have hcs := clean_size sheet
  have HG : Hid (∃ m, w.cell? ⟨0, 0, none⟩ = some (.int .i64 m)) := hg
  clear hg
  refine calls_of_nwp Tryz.func68 rfl ?_
  simp only [Tryz.ntmps68, List.size_toArray, List.length_cons, List.length_nil, Nat.reduceAdd, Nat.reduceSub, Array.replicate_succ,
     Array.replicate_zero, List.push_toArray, List.append_toArray, List.nil_append, List.cons_append]
  refine nwp_seq (nwp_of_wp ?_)
  go_wp2_with fail
  refine nwp_scope_fwd (fun Q' hF => ?_)
  refine nwp_seq (nwp_of_wp ?_)
  go_wp2_with fail
  refine (clean_c sheet w hs).mono ?_
  rintro e w1 ⟨rfl, hb1⟩
  obtain ⟨s, HS⟩ : ∃ s, Hid (Sp.clean sheet = s) := ⟨_, rfl⟩
  rw [HS.out] at hcs ⊢
  have HB1 : Hid (Below w.heap.size w w1) := hb1
  clear hb1
  go_wp2_with fail
  refine nwp_seq (nwp_of_wp ?_)
  have hmc := mkChan s.size (by omega)
  go_wp2_with fail
  have hw1 : w.heap.size ≤ w1.heap.size := HB1.out.size
  have S0 : Hid (Sending w ((w1.alloc (.cells #[.string s, .int .i64 0] 201)).alloc (.chan s.size #[] false 0 0 false)) w1.heap.size (w1.heap.size + 1) s 0 []) := by
    refine ⟨⟨?_, ?_, by omega, by omega, by omega⟩, ?_, ?_, by omega, by omega, by omega, by omega⟩
    · rw [Below.heap_alloc _ _ _ (by simp)]; exact heap_alloc_new w1 _
    · obtain ⟨m, hm⟩ := HG.out
      refine ⟨m, ?_⟩
      rw [← hm]
      exact ((HB1.out.alloc hw1 _).alloc (by simp; omega) _).cell (p := ⟨0, 0, none⟩) h0
    · have := heap_alloc_new (w1.alloc (.cells #[.string s, .int .i64 0] 201)) (.chan s.size #[] false 0 0 false)
      simpa using this
    · exact (HB1.out.alloc hw1 _).alloc (by simp; omega) _
  refine nwp_seq ?_
  refine nwp_block ?_
  refine nwp_loop (fun n a wr => ∃ (k : Nat) (ts : List Tok) (u12 u13 u14 u15 u16 : Value), a = ⟨#[Value.string sheet, undef, Value.chan none, Value.pointer (some ⟨w1.heap.size, 0, none⟩), Value.chan (some (w1.heap.size + 1)), Value.string sheet, Value.string s, Value.agg #[Value.string s, Value.int .i64 0], Value.pointer (some ⟨w1.heap.size, 0, none⟩), Value.string s, Value.int .i64 (s.size : Int), Value.chan (some (w1.heap.size + 1)), u12, u13, u14, u15, u16, undef, undef], []⟩ ∧ s.size ≤ k + n ∧ ts.length ≤ k ∧ ts ++ tokF s n (com s k) = toks s ∧ Sending w wr w1.heap.size (w1.heap.size + 1) s k ts) s.size ⟨0, [], undef, undef, undef, undef, undef, rfl, by omega, by simp, rfl, S0.out⟩ ?_
  rintro gk _ wr ⟨k, ts, u12, u13, u14, u15, u16, rfl, hk, htl, hts, hS⟩
  have HT : Hid (ts ++ tokF s gk (com s k) = toks s) := hts
  have S1 : Hid (Sending w wr w1.heap.size (w1.heap.size + 1) s k ts) := hS
  clear hts hS S0
  have hkl := S1.out.sc.le
  have hcg := com_ge hkl
  have hcl := com_le hkl
  refine nwp_block ?_
  refine nwp_seq (nwp_of_wp ?_)
  go_wp2_with fail
  refine (passComments_c s w1.heap.size k _ S1.out.sc).mono ?_
  rintro e w2 ⟨rfl, hwent⟩
  have S2 : Hid (Sending w w2 w1.heap.size (w1.heap.size + 1) s (com s k) ts) := S1.out.went hwent
  clear hwent
  obtain ⟨k1, HK⟩ : ∃ k1, Hid (com s k = k1) := ⟨_, rfl⟩
  rw [HK.out] at hcg hcl
  have S3 : Hid (Sending w w2 w1.heap.size (w1.heap.size + 1) s k1 ts) := by have := S2.out; rw [HK.out] at this; exact this
  have HT2 : Hid (ts ++ tokF s gk k1 = toks s) := by have := HT.out; rw [HK.out] at this; exact this
  clear S1 S2 HT
  go_wp2_with fail
  refine nwp_seq (nwp_of_wp ?_)
  by_cases hend : s.size ≤ k1
  · have e0 : (pk s k1 == -1) = true := by rw [pk_out hend]; rfl
    have HV : Hid (ts = toks s) := by
      show ts = toks s
      rw [← HT2.out]
      cases gk with
      | zero => simp [tokF]
      | succ f => unfold tokF; rw [if_pos hend]; simp
    go_wp2_with fail
    refine (peek_c s w1.heap.size k1 _ k1 _ S3.out.sc ⟨by omega, by omega, by omega⟩).mono ?_
    rintro e wq ⟨rfl, nq, rfl⟩
    go_wp2_with fail
    go_step3
    refine hF.go 0 _ _ _ rfl ?_
    clear hF
    have S4 : Hid (Sending w (w2.drewN nq) w1.heap.size (w1.heap.size + 1) s k1 ts) := S3.out.drewN nq
    obtain ⟨w3, hcl, HC, HB⟩ : ∃ w3 : World, (∀ ats ty, (Builtin.close_ ats ty #[.chan (some (w1.heap.size + 1))]).run Tryz.prog (w2.drewN nq) = .ok (.tuple #[]) w3) ∧ Hid (w3.heap[w1.heap.size + 1]? = some (.chan s.size (ts.map tokV).toArray true ts.length 0 false)) ∧ Hid (Below w.heap.size w w3) :=
      ⟨(w2.drewN nq).setChan (w1.heap.size + 1) s.size (ts.map tokV).toArray true ts.length 0 false, fun ats ty => run_close_open (P := Tryz.prog) (w := w2.drewN nq) ats ty S4.out.chan, heap_setChan _ _ _ _ _ _ _ _ S4.out.clt, below_setChan S4.out.below S4.out.loc _ _ _ _ _ _⟩
    go_wp2_with fail
    rw [Exit.noGoto_ret]
    go_ret
    refine ⟨w1.heap.size + 1, s.size, ts.length, rfl, by omega, ?_, HB.out⟩
    rw [HS.out, ← HV.out]
    exact HC.out
  · have e0 : (pk s k1 == -1) = false := by have := pk_nn (s := s) (i := k1) (by omega); simp; omega
    have hlt : k1 < s.size := by omega
    obtain ⟨f, rfl⟩ : ∃ f, gk = f + 1 := ⟨gk - 1, by omega⟩
    have htg := token_gt hlt
    have htle := token_le hlt
    have HV : Hid (ts ++ [(token s k1).1] ++ tokF s f (com s (token s k1).2) = toks s) := by
      show _ = _
      rw [← HT2.out]
      conv => rhs; unfold tokF
      rw [if_neg hend]; simp
    go_wp2_with fail
    refine (peek_c s w1.heap.size k1 _ k1 _ S3.out.sc ⟨by omega, by omega, by omega⟩).mono ?_
    rintro e wq ⟨rfl, nq, rfl⟩
    have S4 : Hid (Sending w (w2.drewN nq) w1.heap.size (w1.heap.size + 1) s k1 ts) := S3.out.drewN nq
    go_wp2_with fail
    refine nwp_region ?_
    show Left _ _ _ [0, 1, 2] _ _
    refine left_value (v := .chan (some (w1.heap.size + 1))) (w' := w2.drewN nq) rfl rfl (by simp [go_sem]) ?_
    refine left_call (f := 114) (args := #[.pointer (some ⟨w1.heap.size, 0, none⟩)]) (w' := w2.drewN nq) (S := fun v w' => v = tokV (token s k1).1 ∧ Went w1.heap.size s (token s k1).2 (w2.drewN nq) w') rfl rfl (by simp [go_sem]) ((token_c s w1.heap.size k1 _ S4.out.sc hlt).mono fun e w' h => ⟨_, h.1, rfl, h.2⟩) ?_
    rintro _ w4 ⟨rfl, hwent⟩
    have S5 : Hid (Sending w w4 w1.heap.size (w1.heap.size + 1) s (token s k1).2 ts) := S4.out.went hwent
    clear hwent
    refine left_send (c := w1.heap.size + 1) (cap := s.size) (s := ts.length) (r := 0) (buf := (ts.map tokV).toArray) (v := tokV (token s k1).1) (z' := .tuple #[]) (tm := false) (w1 := w4) rfl rfl (by simp [go_sem, execOp, scase, Act.eval, Act.put]) S5.out.chan (by simp; omega) ?_
    refine left_nil ?_
    refine ⟨f, by omega, (token s k1).2, ts ++ [(token s k1).1], _, _, _, _, _, rfl, by omega, by simp; omega, HV.out, S5.out.sent _⟩
end Go.Proofs.YtlliliddljkbfaaGreat
namespace Go.Proofs.YtlliliddljkbfaaGreat
set_option maxHeartbeats 64000000
set_option maxRecDepth 100000
open Go.RowKit Go.Conc Sp
def tokCells : List Tok → List Value
  | [] => []
  | t :: r => [.int .i64 t.kind, .string t.word, .string t.unit] ++ tokCells r
theorem tokCells_append : ∀ a b : List Tok, tokCells (a ++ b) = tokCells a ++ tokCells b
  | [], b => rfl
  | t :: a, b => by simp [tokCells, tokCells_append a b]
theorem tok_oneCell (t : Tok) : ∀ u ∈ [Value.int .i64 t.kind, .string t.word, .string t.unit], u.oneCell' = true := by simp [Value.oneCell']
theorem toks_len (s : ByteArray) : (toks s).length ≤ s.size := by
  have := tokF_len s s.size (com s 0) (com_le (Nat.zero_le _))
  unfold toks; omega
theorem ownsRow_setChan {w : World} {base : Nat} {e : TypeId} {size : Nat} {v : Value} {n : Nat} {xs : List Value} (h : w.ownsRow base e size v n xs) {c : Nat} (hc : c < base) (cap : Nat) (buf : Array Value) (cl : Bool) (s r : Nat) (tm : Bool) : (w.setChan c cap buf cl s r tm).ownsRow base e size v n xs := by
  refine ⟨h.1, ?_⟩
  rcases h.2 with hn | ⟨g, cap', cur, rfl, hbg, hgg, rest⟩
  · exact .inl hn
  · refine .inr ⟨g, cap', cur, rfl, hbg, ?_, rest⟩
    rw [heap_setChan_other _ _ _ _ _ _ _ _ (by omega)]
    exact hgg
end Go.Proofs.YtlliliddljkbfaaGreat
namespace Go.Proofs.YtlliliddljkbfaaGreat
set_option maxHeartbeats 64000000
set_option maxRecDepth 100000
open Go.RowKit Sp
def strOf (l : List UInt8) : ByteArray := ⟨l.toArray⟩
def allB (p : UInt8 → Bool) (s : ByteArray) : Bool := s.data.toList.all p
def allTo (p : UInt8 → Bool) (s : ByteArray) (k : Nat) : Bool := (s.data.toList.take k).all p
theorem allTo_succ (p : UInt8 → Bool) {s : ByteArray} {k : Nat} (h : k < s.size) : allTo p s (k + 1) = (allTo p s k && p s[k]) := by
  unfold allTo
  have h' : k < s.data.toList.length := by simpa using h
  rw [List.take_succ_eq_append_getElem h', List.all_append]
  simp [ByteArray.getElem_eq_getElem_data]
theorem allTo_all (p : UInt8 → Bool) (s : ByteArray) : allTo p s s.size = allB p s := by
  unfold allTo allB
  rw [List.take_of_length_le (by simp)]
theorem allTo_false (p : UInt8 → Bool) {s : ByteArray} {k : Nat} (h : k < s.size) (hp : p s[k] = false) : allB p s = false := by
  unfold allB
  have h' : k < s.data.toList.length := by simpa using h
  rw [List.all_eq_false]
  exact ⟨s.data.toList[k], List.getElem_mem _, by simpa [ByteArray.getElem_eq_getElem_data] using hp⟩
def pageV (c : UInt8) : Bool := pageB c || c == 32
def CStr : Law ByteArray := fun _ _ s cs => cs = [.string s] ∧ s.size ≤ 4194304
def CAtt : Law (ByteArray × ByteArray) := fun _ _ a cs => cs = [.string a.1, .string a.2] ∧ a.1.size ≤ 4194304 ∧ a.2.size ≤ 4194304
def CEl : Law Elem := fun S w x cs => ∃ cv av, cs = [.int .i64 x.parent, .string x.tag, .string x.id, cv, av] ∧ SG CStr 1 S w cv x.classes ∧ SG CAtt 2 S w av x.attrs ∧ x.tag.size ≤ 4194304 ∧ x.id.size ≤ 4194304 ∧ -9223372036854775808 ≤ x.parent ∧ x.parent ≤ 9223372036854775807
theorem CStr.fair : Fair CStr := fun _ _ _ _ _ _ _ _ h => h
theorem CAtt.fair : Fair CAtt := fun _ _ _ _ _ _ _ _ h => h
theorem CStr.sized : Sized CStr 1 := by rintro S w x cs ⟨rfl, _⟩; rfl
theorem CAtt.sized : Sized CAtt 2 := by rintro S w x cs ⟨rfl, _⟩; rfl
theorem CEl.fair : Fair CEl := by
  rintro S S' w w' x cs hS hw ⟨cv, av, h1, h2, h3, h4⟩
  exact ⟨cv, av, h1, h2.keep CStr.fair hS hw, h3.keep CAtt.fair hS hw, h4⟩
theorem CEl.sized : Sized CEl 5 := by rintro S w x cs ⟨cv, av, rfl, _⟩; rfl
structure ElAt (S : Nat → Prop) (w : World) (x : Elem) (g o : Nat) (cv av : Value) : Prop where
  s : S g
  c0 : w.cell? ⟨g, o, none⟩ = some (.int .i64 x.parent)
  c1 : w.cell? ⟨g, o + 1, none⟩ = some (.string x.tag)
  c2 : w.cell? ⟨g, o + 2, none⟩ = some (.string x.id)
  c3 : w.cell? ⟨g, o + 3, none⟩ = some cv
  c4 : w.cell? ⟨g, o + 4, none⟩ = some av
  cl : SG CStr 1 S w cv x.classes
  at_ : SG CAtt 2 S w av x.attrs
  tag : x.tag.size ≤ 4194304
  id : x.id.size ≤ 4194304
  lo : -9223372036854775808 ≤ x.parent
  hi : x.parent ≤ 9223372036854775807
theorem LG.str {S : Nat → Prop} {w : World} {l : List ByteArray} {g o i : Nat} (h : LG CStr 1 S w l g o) (hi : i < l.length) : S g ∧ w.cell? ⟨g, o + i, none⟩ = some (.string l[i]) ∧ l[i].size ≤ 4194304 := by
  obtain ⟨h0, cs, ⟨rfl, h2⟩, hc⟩ := h.at l g o i hi
  have := hc 0 _ rfl
  rw [Nat.mul_one, Nat.add_zero] at this
  exact ⟨h0, this, h2⟩
theorem LG.att {S : Nat → Prop} {w : World} {l : List (ByteArray × ByteArray)} {g o i : Nat} (h : LG CAtt 2 S w l g o) (hi : i < l.length) : S g ∧ w.cell? ⟨g, o + i * 2, none⟩ = some (.string l[i].1) ∧ w.cell? ⟨g, o + i * 2 + 1, none⟩ = some (.string l[i].2) ∧ l[i].1.size ≤ 4194304 ∧ l[i].2.size ≤ 4194304 := by
  obtain ⟨h0, cs, ⟨rfl, h2, h3⟩, hc⟩ := h.at l g o i hi
  exact ⟨h0, hc 0 _ rfl, hc 1 _ rfl, h2, h3⟩
def classP (c : ByteArray) : Bool := nameP c && !decide (c = nob)
def attP (a : ByteArray × ByteArray) : Bool := nameP a.1 && valueP a.2 && !decide (a.1 = nob)
def parP (i : Nat) (x : Elem) : Bool := if i = 0 then x.parent == -1 else decide (0 ≤ x.parent) && decide (x.parent < i)
def headP (i : Nat) (x : Elem) : Bool := nameP x.tag && !decide (x.tag = nob) && nameP x.id && decide (x.classes.length ≤ 4) && decide (x.attrs.length ≤ 4) && parP i x
section
attribute [local go_sem] fld_tok fld_ins fld_kind fld_word
def sgB (s : ByteArray) : Bool := s.toList == [43] || s.toList == [45] || s.toList == [42] || s.toList == [47] || s.toList == [46] || s.toList == [44] || s.toList == [58] || s.toList == [37] || s.toList == [61] || s.toList == [40] || s.toList == [91] || s.toList == [123]
theorem signMayBe_c (s : ByteArray) (w : World) : Calls Tryz.prog 248 #[.string s] w fun e w' => e = .returned (.bool (sgB s)) ∧ w' = w := by
  go_enter Tryz.func248, Tryz.ntmps248
  go_wp2_with fail
  all_goals
    go_ret
    refine ⟨rbool ?_, rfl⟩
    first | (simp [sgB, *]; done) | (exfalso; simp_all; done)
theorem sgB_eq (t : Tok) (h : t.kind = 15) : sgB t.word = (!decide (closing t = nob) || okSignW t.word) := by
  unfold sgB okSignW
  rw [bytes_lit, bytes_lit, bytes_lit, bytes_lit, bytes_lit, bytes_lit, bytes_lit, bytes_lit, bytes_lit, bytes_lit, bytes_lit, bytes_lit]
  have hc : closing t = if t.word = b1 40 then b1 41 else if t.word = b1 91 then b1 93 else if t.word = b1 123 then b1 125 else nob := by
    unfold closing
    rw [if_neg (by rw [h]; decide), if_pos h]
  rw [hc]
  show (decide (t.word = b1 43) || decide (t.word = b1 45) || decide (t.word = b1 42) || decide (t.word = b1 47) || decide (t.word = b1 46) || decide (t.word = b1 44) || decide (t.word = b1 58) || decide (t.word = b1 37) || decide (t.word = b1 61) || decide (t.word = b1 40) || decide (t.word = b1 91) || decide (t.word = b1 123)) = _
  by_cases h1 : t.word = b1 40
  · rw [if_pos h1, decide_eq_true h1]; simp [show ¬ b1 41 = nob by decide]
  · rw [if_neg h1, decide_eq_false h1]
    by_cases h2 : t.word = b1 91
    · rw [if_pos h2, decide_eq_true h2]; simp [show ¬ b1 93 = nob by decide]
    · rw [if_neg h2, decide_eq_false h2]
      by_cases h3 : t.word = b1 123
      · rw [if_pos h3, decide_eq_true h3]; simp [show ¬ b1 125 = nob by decide]
      · rw [if_neg h3, decide_eq_false h3]
        cases decide (t.word = b1 43) <;> cases decide (t.word = b1 45) <;> cases decide (t.word = b1 42) <;> cases decide (t.word = b1 47) <;> cases decide (t.word = b1 46) <;> cases decide (t.word = b1 44) <;> cases decide (t.word = b1 58) <;> cases decide (t.word = b1 37) <;> cases decide (t.word = b1 61) <;> rfl
end
section
attribute [local go_sem] fld_tok fld_ins fld_kind fld_word
theorem contains_any (zs : List ByteArray) (x : ByteArray) : zs.contains x = zs.any (fun z => decide (x = z)) := by
  induction zs with
  | nil => rfl
  | cons z r ih =>
    rw [List.contains_cons, ih, List.any_cons]
    congr 1
    rw [Bool.eq_iff_iff]
    obtain ⟨xd⟩ := x
    obtain ⟨zd⟩ := z
    show (xd == zd) = true ↔ decide (_ = _) = true
    simp
theorem has_c (S : Nat → Prop) (zs : List ByteArray) (v : Value) (x : ByteArray) (w : World) (h : SG CStr 1 S w v zs) :
    Calls Tryz.prog 188 #[v, .string x] w fun e w' => e = .returned (.bool (zs.contains x)) ∧ w' = w := by
  obtain ⟨a, cap, rfl⟩ := h.form
  cases zs with
  | nil => exact Tryz.slices_Contains_string_empty a cap x w
  | cons z r =>
    have hl := h.len
    obtain ⟨g, o, rfl, hL, hcap⟩ := h.here (by simp)
    have := Tryz.slices_Contains_string g o (z :: r).length cap (z :: r) x w (Nat.le_refl _) (by omega) (fun j hj => by
      have h1 := (hL.str (i := j) hj).2.1
      rw [h1, List.getD_eq_getElem?_getD, List.getElem?_eq_getElem hj]; rfl)
    rw [List.take_of_length_le (Nat.le_refl _), has_lit, ← contains_any] at this
    exact this
def polV (p : Policy) (pv fv av : Value) : Value := .agg #[.string p.root, pv, fv, av, .bool p.cust, .bool p.texts]
structure PolM (B : Nat) (w : World) (p : Policy) (pv fv av : Value) : Prop where
  props : SG CStr 1 (fun b => b < B) w pv p.props
  funs : SG CStr 1 (fun b => b < B) w fv p.funs
  ats : SG CStr 1 (fun b => b < B) w av p.ats
  lt : B ≤ w.heap.size
theorem PolM.below {B : Nat} {w w' : World} {p : Policy} {pv fv av : Value} {g : Nat} (h : PolM B w p pv fv av) (hb : Below g w w') (hg : B ≤ g) : PolM B w' p pv fv av :=
  ⟨h.props.below CStr.fair hb hg, h.funs.below CStr.fair hb hg, h.ats.below CStr.fair hb hg, Nat.le_trans h.lt hb.size⟩
def Q6 (w : World) (b : Nat) (x0 x1 x2 x3 x4 x5 : Value) : Prop := w.heap[b]? = some (.cells #[x0, x1, x2, x3, x4, x5] 82 (0, 0))
section
variable {w w' : World} {b : Nat} {x0 x1 x2 x3 x4 x5 : Value}
theorem Q6.lt (h : Q6 w b x0 x1 x2 x3 x4 x5) : b < w.heap.size := (Array.getElem?_eq_some_iff.1 h).1
theorem Q6.cs (h : Q6 w b x0 x1 x2 x3 x4 x5) : w.cell? ⟨b, 0, none⟩ = some x0 ∧ w.cell? ⟨b, 1, none⟩ = some x1 ∧ w.cell? ⟨b, 2, none⟩ = some x2 ∧ w.cell? ⟨b, 3, none⟩ = some x3 ∧ w.cell? ⟨b, 4, none⟩ = some x4 ∧ w.cell? ⟨b, 5, none⟩ = some x5 := by
  have h' : w.heap[b]? = _ := h
  refine ⟨?_, ?_, ?_, ?_, ?_, ?_⟩ <;> (unfold World.cell?; rw [h']; rfl)
theorem Q6.below {g : Nat} (h : Q6 w b x0 x1 x2 x3 x4 x5) (hb : Below g w w') (hg : b < g) : Q6 w' b x0 x1 x2 x3 x4 x5 := by
  show _ = _; rw [hb.block b hg]; exact h
theorem Q6.new (w : World) (x0 x1 x2 x3 x4 x5 : Value) : Q6 (w.alloc (.cells #[x0, x1, x2, x3, x4, x5] 82)) w.heap.size x0 x1 x2 x3 x4 x5 := heap_alloc_new w _
theorem Q6.nb (p : Policy) (pa fa aa : Option Addr) (pc fc ac : Nat) (w : World) : Hid (Below w.heap.size w (w.alloc (.cells #[.string p.root, .slice pa p.props.length pc, .slice fa p.funs.length fc, .slice aa p.ats.length ac, .bool p.cust, .bool p.texts] 82))) ∧ Hid (Q6 (w.alloc (.cells #[.string p.root, .slice pa p.props.length pc, .slice fa p.funs.length fc, .slice aa p.ats.length ac, .bool p.cust, .bool p.texts] 82)) w.heap.size (.string p.root) (.slice pa p.props.length pc) (.slice fa p.funs.length fc) (.slice aa p.ats.length ac) (.bool p.cust) (.bool p.texts)) :=
  ⟨(Below.refl _ _).alloc (Nat.le_refl _) _, Q6.new _ _ _ _ _ _ _⟩
theorem Q6.alloc (h : Q6 w b x0 x1 x2 x3 x4 x5) (o : Obj) : Q6 (w.alloc o) b x0 x1 x2 x3 x4 x5 := h.below ((Below.refl _ _).alloc (Nat.le_refl _) _) h.lt
end
section
variable (p : Policy) (pa fa aa : Option Addr) (pl pc fl fc al ac : Nat) (wd un : ByteArray) (ka : Option Addr) (kl kc : Nat) (w : World)
theorem two_below (o1 o2 : Obj) : Below w.heap.size w ((w.alloc o1).alloc o2) := ((Below.refl _ _).alloc (Nat.le_refl _) _).alloc (by simp) _
theorem may_2 : Calls Tryz.prog 189 #[polV p (.slice pa pl pc) (.slice fa fl fc) (.slice aa al ac), .agg #[.int .i64 2, .string wd, .string un, .slice ka kl kc]] w fun e w' => e = .returned (.bool p.texts) ∧ Below w.heap.size w w' := by
  have B2 : Hid (Below w.heap.size w ((w.alloc (.cells #[.string p.root, .slice pa pl pc, .slice fa fl fc, .slice aa al ac, .bool p.cust, .bool p.texts] 82)).alloc (.cells #[.int .i64 2, .string wd, .string un, .slice ka kl kc] 199))) := two_below _ _ _
  unfold polV
  go_enter Tryz.func189, Tryz.ntmps189
  go_wp2_with fail
  go_ret
  exact ⟨rfl, B2.out⟩
theorem may_1 : Calls Tryz.prog 189 #[polV p (.slice pa pl pc) (.slice fa fl fc) (.slice aa al ac), .agg #[.int .i64 1, .string wd, .string un, .slice ka kl kc]] w fun e w' => e = .returned (.bool true) ∧ Below w.heap.size w w' := by
  have B2 : Hid (Below w.heap.size w ((w.alloc (.cells #[.string p.root, .slice pa pl pc, .slice fa fl fc, .slice aa al ac, .bool p.cust, .bool p.texts] 82)).alloc (.cells #[.int .i64 1, .string wd, .string un, .slice ka kl kc] 199))) := two_below _ _ _
  unfold polV
  go_enter Tryz.func189, Tryz.ntmps189
  go_wp2_with fail
  go_ret
  exact ⟨rfl, B2.out⟩
theorem may_4 : Calls Tryz.prog 189 #[polV p (.slice pa pl pc) (.slice fa fl fc) (.slice aa al ac), .agg #[.int .i64 4, .string wd, .string un, .slice ka kl kc]] w fun e w' => e = .returned (.bool true) ∧ Below w.heap.size w w' := by
  have B2 : Hid (Below w.heap.size w ((w.alloc (.cells #[.string p.root, .slice pa pl pc, .slice fa fl fc, .slice aa al ac, .bool p.cust, .bool p.texts] 82)).alloc (.cells #[.int .i64 4, .string wd, .string un, .slice ka kl kc] 199))) := two_below _ _ _
  unfold polV
  go_enter Tryz.func189, Tryz.ntmps189
  go_wp2_with fail
  go_ret
  exact ⟨rfl, B2.out⟩
theorem may_5 : Calls Tryz.prog 189 #[polV p (.slice pa pl pc) (.slice fa fl fc) (.slice aa al ac), .agg #[.int .i64 5, .string wd, .string un, .slice ka kl kc]] w fun e w' => e = .returned (.bool true) ∧ Below w.heap.size w w' := by
  have B2 : Hid (Below w.heap.size w ((w.alloc (.cells #[.string p.root, .slice pa pl pc, .slice fa fl fc, .slice aa al ac, .bool p.cust, .bool p.texts] 82)).alloc (.cells #[.int .i64 5, .string wd, .string un, .slice ka kl kc] 199))) := two_below _ _ _
  unfold polV
  go_enter Tryz.func189, Tryz.ntmps189
  go_wp2_with fail
  go_ret
  exact ⟨rfl, B2.out⟩
theorem may_6 : Calls Tryz.prog 189 #[polV p (.slice pa pl pc) (.slice fa fl fc) (.slice aa al ac), .agg #[.int .i64 6, .string wd, .string un, .slice ka kl kc]] w fun e w' => e = .returned (.bool true) ∧ Below w.heap.size w w' := by
  have B2 : Hid (Below w.heap.size w ((w.alloc (.cells #[.string p.root, .slice pa pl pc, .slice fa fl fc, .slice aa al ac, .bool p.cust, .bool p.texts] 82)).alloc (.cells #[.int .i64 6, .string wd, .string un, .slice ka kl kc] 199))) := two_below _ _ _
  unfold polV
  go_enter Tryz.func189, Tryz.ntmps189
  go_wp2_with fail
  go_ret
  exact ⟨rfl, B2.out⟩
theorem may_7 : Calls Tryz.prog 189 #[polV p (.slice pa pl pc) (.slice fa fl fc) (.slice aa al ac), .agg #[.int .i64 7, .string wd, .string un, .slice ka kl kc]] w fun e w' => e = .returned (.bool true) ∧ Below w.heap.size w w' := by
  have B2 : Hid (Below w.heap.size w ((w.alloc (.cells #[.string p.root, .slice pa pl pc, .slice fa fl fc, .slice aa al ac, .bool p.cust, .bool p.texts] 82)).alloc (.cells #[.int .i64 7, .string wd, .string un, .slice ka kl kc] 199))) := two_below _ _ _
  unfold polV
  go_enter Tryz.func189, Tryz.ntmps189
  go_wp2_with fail
  go_ret
  exact ⟨rfl, B2.out⟩
theorem may_14 : Calls Tryz.prog 189 #[polV p (.slice pa pl pc) (.slice fa fl fc) (.slice aa al ac), .agg #[.int .i64 14, .string wd, .string un, .slice ka kl kc]] w fun e w' => e = .returned (.bool true) ∧ Below w.heap.size w w' := by
  have B2 : Hid (Below w.heap.size w ((w.alloc (.cells #[.string p.root, .slice pa pl pc, .slice fa fl fc, .slice aa al ac, .bool p.cust, .bool p.texts] 82)).alloc (.cells #[.int .i64 14, .string wd, .string un, .slice ka kl kc] 199))) := two_below _ _ _
  unfold polV
  go_enter Tryz.func189, Tryz.ntmps189
  go_wp2_with fail
  go_ret
  exact ⟨rfl, B2.out⟩
theorem may_3 : Calls Tryz.prog 189 #[polV p (.slice pa pl pc) (.slice fa fl fc) (.slice aa al ac), .agg #[.int .i64 3, .string wd, .string un, .slice ka kl kc]] w fun e w' => e = .returned (.bool false) ∧ Below w.heap.size w w' := by
  have B2 : Hid (Below w.heap.size w ((w.alloc (.cells #[.string p.root, .slice pa pl pc, .slice fa fl fc, .slice aa al ac, .bool p.cust, .bool p.texts] 82)).alloc (.cells #[.int .i64 3, .string wd, .string un, .slice ka kl kc] 199))) := two_below _ _ _
  unfold polV
  go_enter Tryz.func189, Tryz.ntmps189
  go_wp2_with fail
  go_ret
  exact ⟨rfl, B2.out⟩
theorem may_8 : Calls Tryz.prog 189 #[polV p (.slice pa pl pc) (.slice fa fl fc) (.slice aa al ac), .agg #[.int .i64 8, .string wd, .string un, .slice ka kl kc]] w fun e w' => e = .returned (.bool false) ∧ Below w.heap.size w w' := by
  have B2 : Hid (Below w.heap.size w ((w.alloc (.cells #[.string p.root, .slice pa pl pc, .slice fa fl fc, .slice aa al ac, .bool p.cust, .bool p.texts] 82)).alloc (.cells #[.int .i64 8, .string wd, .string un, .slice ka kl kc] 199))) := two_below _ _ _
  unfold polV
  go_enter Tryz.func189, Tryz.ntmps189
  go_wp2_with fail
  go_ret
  exact ⟨rfl, B2.out⟩
theorem may_9 : Calls Tryz.prog 189 #[polV p (.slice pa pl pc) (.slice fa fl fc) (.slice aa al ac), .agg #[.int .i64 9, .string wd, .string un, .slice ka kl kc]] w fun e w' => e = .returned (.bool false) ∧ Below w.heap.size w w' := by
  have B2 : Hid (Below w.heap.size w ((w.alloc (.cells #[.string p.root, .slice pa pl pc, .slice fa fl fc, .slice aa al ac, .bool p.cust, .bool p.texts] 82)).alloc (.cells #[.int .i64 9, .string wd, .string un, .slice ka kl kc] 199))) := two_below _ _ _
  unfold polV
  go_enter Tryz.func189, Tryz.ntmps189
  go_wp2_with fail
  go_ret
  exact ⟨rfl, B2.out⟩
theorem may_10 : Calls Tryz.prog 189 #[polV p (.slice pa pl pc) (.slice fa fl fc) (.slice aa al ac), .agg #[.int .i64 10, .string wd, .string un, .slice ka kl kc]] w fun e w' => e = .returned (.bool false) ∧ Below w.heap.size w w' := by
  have B2 : Hid (Below w.heap.size w ((w.alloc (.cells #[.string p.root, .slice pa pl pc, .slice fa fl fc, .slice aa al ac, .bool p.cust, .bool p.texts] 82)).alloc (.cells #[.int .i64 10, .string wd, .string un, .slice ka kl kc] 199))) := two_below _ _ _
  unfold polV
  go_enter Tryz.func189, Tryz.ntmps189
  go_wp2_with fail
  go_ret
  exact ⟨rfl, B2.out⟩
theorem may_12 : Calls Tryz.prog 189 #[polV p (.slice pa pl pc) (.slice fa fl fc) (.slice aa al ac), .agg #[.int .i64 12, .string wd, .string un, .slice ka kl kc]] w fun e w' => e = .returned (.bool false) ∧ Below w.heap.size w w' := by
  have B2 : Hid (Below w.heap.size w ((w.alloc (.cells #[.string p.root, .slice pa pl pc, .slice fa fl fc, .slice aa al ac, .bool p.cust, .bool p.texts] 82)).alloc (.cells #[.int .i64 12, .string wd, .string un, .slice ka kl kc] 199))) := two_below _ _ _
  unfold polV
  go_enter Tryz.func189, Tryz.ntmps189
  go_wp2_with fail
  go_ret
  exact ⟨rfl, B2.out⟩
theorem may_13 : Calls Tryz.prog 189 #[polV p (.slice pa pl pc) (.slice fa fl fc) (.slice aa al ac), .agg #[.int .i64 13, .string wd, .string un, .slice ka kl kc]] w fun e w' => e = .returned (.bool false) ∧ Below w.heap.size w w' := by
  have B2 : Hid (Below w.heap.size w ((w.alloc (.cells #[.string p.root, .slice pa pl pc, .slice fa fl fc, .slice aa al ac, .bool p.cust, .bool p.texts] 82)).alloc (.cells #[.int .i64 13, .string wd, .string un, .slice ka kl kc] 199))) := two_below _ _ _
  unfold polV
  go_enter Tryz.func189, Tryz.ntmps189
  go_wp2_with fail
  go_ret
  exact ⟨rfl, B2.out⟩
theorem may_15 : Calls Tryz.prog 189 #[polV p (.slice pa pl pc) (.slice fa fl fc) (.slice aa al ac), .agg #[.int .i64 15, .string wd, .string un, .slice ka kl kc]] w fun e w' => e = .returned (.bool (sgB wd)) ∧ Below w.heap.size w w' := by
  have B2 : Hid (Below w.heap.size w ((w.alloc (.cells #[.string p.root, .slice pa pl pc, .slice fa fl fc, .slice aa al ac, .bool p.cust, .bool p.texts] 82)).alloc (.cells #[.int .i64 15, .string wd, .string un, .slice ka kl kc] 199))) := two_below _ _ _
  unfold polV
  go_enter Tryz.func189, Tryz.ntmps189
  go_wp2_with fail
  refine (signMayBe_c wd _).mono ?_
  rintro e wq ⟨rfl, hwq⟩
  rw [hwq]
  go_wp2_with fail
  go_ret
  exact ⟨rfl, B2.out⟩
end
end
end Go.Proofs.YtlliliddljkbfaaGreat
