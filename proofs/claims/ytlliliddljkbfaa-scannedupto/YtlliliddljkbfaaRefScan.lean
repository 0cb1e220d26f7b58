/-
  The reference's Clean and scanned.
-/
import Derived.Test.YtlliliddljkbfaaRefTok
import Derived.Test.YtlliliddljkbfaaRefCom
import Derived.Test.YtlliliddljkbfaaTokC
namespace Go.Proofs.Ytlliliddljkbfaa
open Go.RowKit Sp
set_option maxRecDepth 100000

def strOf (l : List UInt8) : ByteArray := ⟨l.toArray⟩
theorem strOf_append (a b : List UInt8) : strOf a ++ strOf b = strOf (a ++ b) := by
  apply ByteArray.ext
  simp [strOf, ByteArray.data_append]
theorem one_strOf {s : ByteArray} {k : Nat} (h : k < s.size) : one s k = strOf [s[k]] := by
  apply ByteArray.ext
  apply Array.ext'
  rw [one, Lib.extract_data, drop_cons h, show k + 1 - k = 1 from by omega]
  rfl
theorem size_strOf (l : List UInt8) : (strOf l).size = l.length := rfl

set_option maxRecDepth 100000 in
set_option maxHeartbeats 3000000 in
theorem Clean_r (s : ByteArray) (w : World) (hs : s.size ≤ 600) :
    Calls Try.prog 15 #[.string s] w fun e w' => e = .returned (.string (Sp.clean s)) ∧ w' = w := by
  go_enter Try.func15, Try.ntmps15
  go_wp2_with fail
  go_loopg [3, 4] s.size (fun g v3 v4 wr => ∃ (k : Nat) (x : ByteArray), k + g = s.size ∧ x.size ≤ k ∧ v4 = .int .i64 (k : Int) ∧ v3 = .string x ∧ Aside (x = strOf (cleanTo s k) ∧ w = wr))
  case atStart => exact ⟨0, ByteArray.empty, by omega, by simp, rfl, rfl, rfl, rfl⟩
  case round =>
    obtain ⟨k, x, hk, hxs, rfl, rfl, hA⟩ := hrel
    have HX : Hid (x = strOf (cleanTo s k)) := hA.out.1
    obtain rfl := hA.out.2
    clear hA
    by_cases hlt : k < s.size
    · have h1 : (k : Int) < (s.size : Int) := by omega
      have hix := index_pk s k hlt
      have HT : Hid (cleanTo s (k + 1) = cleanTo s k ++ clB s k) := rfl
      by_cases h13 : pk s k = 13
      · have e1 : (pk s k == 13) = true := by rw [h13]; rfl
        by_cases hnx : k + 1 < s.size
        · have hnx' : (k : Int) + 1 < (s.size : Int) := by omega
          have hix2 : ∀ w : World, (Instr.index 9 (.string s) (.int .i64 ((k : Int) + 1))).run Try.prog w = .ok (.int .u8 (pk s (k + 1))) w := fun w => index_pk s (k + 1) hnx w
          by_cases h10 : pk s (k + 1) = 10
          · have e2 : (pk s (k + 1) == 10) = true := by rw [h10]; rfl
            have HC : Hid (x = strOf (cleanTo s (k + 1))) := by show _ = _; rw [HT.out, clB_skip hlt h13 h10, List.append_nil]; exact HX.out
            clear h13 h10
            go_wp2_with fail
            go_roundg (gk - 1)
            case measure => omega
            case rel => exact ⟨k + 1, x, by omega, by omega, by congr 1, rfl, HC.out, rfl⟩
          · have e2 : (pk s (k + 1) == 10) = false := by simpa using h10
            have HC : Hid (x ++ strOf [10] = strOf (cleanTo s (k + 1))) := by show _ = _; rw [HT.out, clB_line hlt (.inl h13) (fun h => h10 h.2), HX.out, strOf_append]
            clear h13 h10
            go_wp2_with fail
            go_roundg (gk - 1)
            case measure => omega
            case rel => exact ⟨k + 1, x ++ strOf [10], by omega, by simp [size_strOf]; omega, by congr 1, rfl, HC.out, rfl⟩
        · have hnx' : (s.size : Int) ≤ (k : Int) + 1 := by omega
          have HC : Hid (x ++ strOf [10] = strOf (cleanTo s (k + 1))) := by show _ = _; rw [HT.out, clB_line hlt (.inl h13) (fun h => by have := pk_lt (s := s) (i := k + 1) (by omega); omega), HX.out, strOf_append]
          clear h13
          go_wp2_with fail
          go_roundg (gk - 1)
          case measure => omega
          case rel => exact ⟨k + 1, x ++ strOf [10], by omega, by simp [size_strOf]; omega, by congr 1, rfl, HC.out, rfl⟩
      · have e1 : (pk s k == 13) = false := by simpa using h13
        by_cases h12 : pk s k = 12
        · have e2 : (pk s k == 12) = true := by rw [h12]; rfl
          have HC : Hid (x ++ strOf [10] = strOf (cleanTo s (k + 1))) := by show _ = _; rw [HT.out, clB_line hlt (.inr h12) (fun h => h13 h.1), HX.out, strOf_append]
          clear h13 h12
          go_wp2_with fail
          go_roundg (gk - 1)
          case measure => omega
          case rel => exact ⟨k + 1, x ++ strOf [10], by omega, by simp [size_strOf]; omega, by congr 1, rfl, HC.out, rfl⟩
        · have e2 : (pk s k == 12) = false := by simpa using h12
          by_cases h0 : pk s k = 0
          · have e3 : (pk s k == 0) = true := by rw [h0]; rfl
            have HC : Hid (x ++ strOf [63] = strOf (cleanTo s (k + 1))) := by show _ = _; rw [HT.out, clB_nul hlt h0, HX.out, strOf_append]
            clear h13 h12 h0
            go_wp2_with fail
            go_roundg (gk - 1)
            case measure => omega
            case rel => exact ⟨k + 1, x ++ strOf [63], by omega, by simp [size_strOf]; omega, by congr 1, rfl, HC.out, rfl⟩
          · have e3 : (pk s k == 0) = false := by simpa using h0
            have HC : Hid (x ++ one s k = strOf (cleanTo s (k + 1))) := by show _ = _; rw [HT.out, clB_else hlt h13 h12 h0, HX.out, one_strOf hlt, strOf_append]
            have hsl := slice1 s k hlt
            have hsz : (one s k).size ≤ 1 := by rw [size_one hlt]; omega
            clear h13 h12 h0
            go_wp2_with fail
            go_roundg (gk - 1)
            case measure => omega
            case rel => exact ⟨k + 1, x ++ one s k, by omega, by simp; omega, by congr 1, rfl, HC.out, rfl⟩
    · have h1 : (s.size : Int) ≤ (k : Int) := by omega
      have HC : Hid (x = Sp.clean s) := by
        show _ = _
        have e : k = s.size := by omega
        rw [HX.out, e]; rfl
      go_wp2_with fail
      go_ret
      exact ⟨rstr HC.out, rfl⟩

set_option maxHeartbeats 2000000 in
theorem scanned_r (sheet : ByteArray) (w : World) (hs : sheet.size ≤ 600) :
    Calls Try.prog 10 #[.string sheet] w fun e w' => ∃ v, e = .returned v ∧ w'.ownsRow w.heap.size 35 3 v (toks (Sp.clean sheet)).length (tokCells (toks (Sp.clean sheet))) ∧ Below w.heap.size w w' := by
  have hcs := clean_size sheet
  have htl := toks_len (Sp.clean sheet)
  obtain ⟨s, HS⟩ : ∃ s, Hid (Sp.clean sheet = s) := ⟨_, rfl⟩
  rw [HS.out] at hcs htl ⊢
  have hc0 := com_le (s := s) (i := 0) (by omega)
  obtain ⟨iT, hiT⟩ := info_tok
  have HI : Hid (Try.prog.info? 35 = some iT ∧ iT.zero = some (.agg #[.int .i64 0, .string ⟨#[]⟩, .string ⟨#[]⟩]) ∧ iT.size = 3 ∧ iT.bytes = 40) := hiT
  clear hiT
  go_enter Try.func10, Try.ntmps10
  go_wp2_with fail
  refine (Clean_r sheet _ hs).mono ?_
  rw [HS.out]
  rintro e wq ⟨rfl, hwq⟩
  rw [hwq]
  clear hwq wq
  go_wp2_with fail
  refine (comments_r s _ 0 _ rfl (by omega) (by omega)).mono ?_
  rintro e wq ⟨rfl, hwq⟩
  rw [hwq]
  clear hwq wq
  go_wp2_with fail
  go_loopg [4, 5] s.size (fun g v4 v5 wr => ∃ (v : Value) (k : Nat) (ts : List Tok), v = v4 ∧ v5 = .int .i64 (k : Int) ∧ s.size ≤ k + g ∧ k ≤ s.size ∧ ts.length ≤ k ∧ Aside (ts ++ tokF s g k = toks s ∧ wr.ownsRow w.heap.size 35 3 v ts.length (tokCells ts) ∧ Below w.heap.size w wr))
  case atStart => exact ⟨_, com s 0, [], rfl, rfl, by omega, hc0, by simp, rfl, World.ownsRow_nil _ _ _ _, Below.refl _ _⟩
  case round =>
    obtain ⟨v, k, ts, rfl, rfl, hk, hk2, htk, hA⟩ := hrel
    have HT : Hid (ts ++ tokF s gk k = toks s) := hA.out.1
    have HO : Hid (wr.ownsRow w.heap.size 35 3 v ts.length (tokCells ts)) := hA.out.2.1
    have HB : Hid (Below w.heap.size w wr) := hA.out.2.2
    clear hA
    by_cases hlt : k < s.size
    · have h1 : (k : Int) < (s.size : Int) := by omega
      obtain ⟨f, rfl⟩ : ∃ f, gk = f + 1 := ⟨gk - 1, by omega⟩
      have htg := token_gt hlt
      have htle := token_le hlt
      have H1 : Hid (ts ++ [(token s k).1] ++ tokF s f (com s (token s k).2) = toks s) := by
        show _ = _
        rw [← HT.out]
        conv => rhs; unfold tokF
        rw [if_neg (by omega)]; simp
      obtain ⟨t, q, HX⟩ : ∃ t q, Hid (token s k = (t, q)) := ⟨_, _, rfl⟩
      rw [HX.out] at htg htle
      have H2 : Hid (ts ++ [t] ++ tokF s f (com s q) = toks s) := by have := H1.out; rw [HX.out] at this; exact this
      clear H1 HT
      dsimp only at htg htle
      have hcq := com_le htle
      have hcg := com_ge htle
      have hsz := HB.out.size
      go_wp2_with fail
      refine (token_r s _ k _ (by omega) (by omega) hlt).mono ?_
      rw [HX.out]
      rintro e w1 ⟨rfl, hb1⟩
      have HB1 : Hid (Below w.heap.size w w1) := HB.out.trans (hb1.mono hsz)
      have HO1 : Hid (w1.ownsRow w.heap.size 35 3 v ts.length (tokCells ts)) := by
        refine ⟨HO.out.1, ?_⟩
        rcases HO.out.2 with h | ⟨g, cap, cur, hv, hbg, hgg, rest⟩
        · exact .inl h
        · exact .inr ⟨g, cap, cur, hv, hbg, by rw [hb1.block g (Array.getElem?_eq_some_iff.1 hgg).1]; exact hgg, rest⟩
      clear hb1
      have hsz1 := HB1.out.size
      unfold tokV
      go_wp2_with (at_builtin; refine wpList_append_own _ rfl _ _ 23 rfl w.heap.size 35 iT (.agg #[.int .i64 0, .string ⟨#[]⟩, .string ⟨#[]⟩]) 3 40 Try.underlying23 HI.out.1 HI.out.2.1 HI.out.2.2.1 HI.out.2.2.2 rfl (by omega) v ts.length (tokCells ts) rfl ((HO1.out.alloc _).alloc _) ⟨w1.heap.size + 1, 0, none⟩ 1 1 [.int .i64 t.kind, .string t.word, .string t.unit] rfl rfl ?_ (tok_oneCell _) ?_ ?_ ?_ ?_)
      · intro j u hu
        have e : (w1.alloc (.cells #[.int .i64 t.kind, .string t.word, .string t.unit] 35)).heap.size = w1.heap.size + 1 := by simp
        rw [Addr.add_lit, Nat.zero_add, ← e, World.cell?_alloc_mark, ← hu]
        simp
      · unfold maxLen; omega
      · omega
      · simp; omega
      intro v4 w2 hown2 hgr2 _
      have HO2 : Hid (w2.ownsRow w.heap.size 35 3 v4 (ts.length + 1) (tokCells ts ++ [.int .i64 t.kind, .string t.word, .string t.unit])) := hown2
      have HB2 : Hid (Below w.heap.size w w2) := ((HB1.out.alloc hsz1 _).alloc (by simp; omega) _).grown hgr2 (by simp; omega) (fun rr hr => (HO1.out.lt rr hr).1)
      clear hown2 hgr2
      go_wp2_with fail
      refine (comments_r s _ q _ (by omega) (by omega) (by omega)).mono ?_
      rintro e wq ⟨rfl, hwq⟩
      rw [hwq]
      clear hwq wq
      go_wp2_with fail
      go_roundg f
      case measure => omega
      case rel => exact ⟨v4, com s q, ts ++ [t], rfl, rfl, by omega, by omega, by simp; omega, H2.out, by rw [tokCells_append, List.length_append]; exact HO2.out, HB2.out⟩
    · have h1 : (s.size : Int) ≤ (k : Int) := by omega
      have HV : Hid (ts = toks s) := by
        show _ = _
        rw [← HT.out]
        cases gk with
        | zero => simp [tokF]
        | succ f => unfold tokF; rw [if_pos (by omega)]; simp
      go_wp2_with fail
      go_ret
      rw [← HV.out]
      exact ⟨v, rfl, HO.out, HB.out⟩
end Go.Proofs.Ytlliliddljkbfaa
