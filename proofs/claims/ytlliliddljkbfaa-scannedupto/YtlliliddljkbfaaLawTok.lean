/-
  The law's 'tokens': both answers are the same.
-/
import Derived.Test.YtlliliddljkbfaaRefTks
namespace Go.Proofs.Ytlliliddljkbfaa
open Go.RowKit Sp
set_option maxRecDepth 100000

theorem tokCells_length : ∀ ts : List Tok, (tokCells ts).length = ts.length * 3
  | [] => rfl
  | t :: r => by simp [tokCells, tokCells_length r]; omega
theorem tokCells_at : ∀ (ts : List Tok) (j : Nat) (hj : j < ts.length), (tokCells ts)[j * 3]? = some (.int .i64 ts[j].kind) ∧ (tokCells ts)[j * 3 + 1]? = some (.string ts[j].word) ∧ (tokCells ts)[j * 3 + 2]? = some (.string ts[j].unit)
  | t :: r, 0, _ => by simp [tokCells]
  | t :: r, j + 1, hj => by
    have h := tokCells_at r j (by simpa using hj)
    have e1 : (j + 1) * 3 = (((j * 3) + 1) + 1) + 1 := by omega
    simp only [tokCells, e1, List.cons_append, List.nil_append, List.getElem?_cons_succ, List.getElem_cons_succ]
    refine ⟨h.1, ?_, ?_⟩
    · exact h.2.1
    · exact h.2.2
theorem own_cells {w : World} {base g cap : Nat} {ts : List Tok} (h : w.ownsRow base 35 3 (.slice (some ⟨g, 0, none⟩) ts.length cap) ts.length (tokCells ts)) (j : Nat) (hj : j < ts.length) :
    w.cell? ⟨g, j * 3, none⟩ = some (.int .i64 ts[j].kind) ∧ w.cell? ⟨g, j * 3 + 1, none⟩ = some (.string ts[j].word) ∧ w.cell? ⟨g, j * 3 + 2, none⟩ = some (.string ts[j].unit) := by
  obtain ⟨h1, h2, h3⟩ := tokCells_at ts j hj
  refine ⟨?_, ?_, ?_⟩
  · rw [h.cellAt (j * 3) (by omega)]; exact h1
  · rw [h.cellAt (j * 3 + 1) (by omega)]; exact h2
  · rw [h.cellAt (j * 3 + 2) (by omega)]; exact h3
theorem ownsRow_below {w w' : World} {base : Nat} {e : TypeId} {size : Nat} {v : Value} {n : Nat} {xs : List Value} (h : w.ownsRow base e size v n xs) (hb : Below w.heap.size w w') : w'.ownsRow base e size v n xs := by
  refine ⟨h.1, ?_⟩
  rcases h.2 with hn | ⟨g, cap, cur, rfl, hbg, hgg, rest⟩
  · exact .inl hn
  · exact .inr ⟨g, cap, cur, rfl, hbg, by rw [hb.block g (Array.getElem?_eq_some_iff.1 hgg).1]; exact hgg, rest⟩

set_option maxRecDepth 100000 in
set_option maxHeartbeats 2000000 in
theorem tokens_c (s : ByteArray) (w : World) (hm : s.size ≤ maxLen) (hg : ∃ m, w.cell? ⟨0, 0, none⟩ = some (.int .i64 m)) (h0 : 0 < w.heap.size) :
    Calls Try.prog 4 #[.string s] w fun e w' => ∃ (v : Value) (ts : List Tok), e = .returned (.tuple #[v, .bool true]) ∧ ts.length ≤ 600 ∧ Hid (s.size ≤ 600 → ts = toks (Sp.clean s)) ∧ w'.ownsRow w.heap.size 35 3 v ts.length (tokCells ts) ∧ Below w.heap.size w w' := by
  by_cases hs : s.size ≤ 600
  · have htl : (toks (Sp.clean s)).length ≤ 600 := by
      have := toks_len (Sp.clean s); have := clean_size s; omega
    obtain ⟨ts, HT⟩ : ∃ ts, Hid (toks (Sp.clean s) = ts) := ⟨_, rfl⟩
    rw [HT.out] at htl
    have HG : Hid (∃ m, w.cell? ⟨0, 0, none⟩ = some (.int .i64 m)) := hg
    clear hg hm
    go_enter Try.func4, Try.ntmps4
    go_wp2_with fail
    refine (Tokens_short s w hs HG.out h0).mono ?_
    rw [HT.out]
    rintro e w1 ⟨l, rfl, ho1, hb1⟩
    have HO1 : Hid (w1.ownsRow w.heap.size 35 3 l ts.length (tokCells ts)) := ho1
    have HB1 : Hid (Below w.heap.size w w1) := hb1
    clear ho1 hb1
    go_wp2_with fail
    refine (RTokens_short s w1 hs).mono ?_
    rw [HT.out]
    rintro e w2 ⟨m, rfl, ho2, hb2⟩
    have HO2 : Hid (w2.ownsRow w1.heap.size 35 3 m ts.length (tokCells ts)) := ho2
    have HO3 : Hid (w2.ownsRow w.heap.size 35 3 l ts.length (tokCells ts)) := ownsRow_below HO1.out hb2
    have HB2 : Hid (Below w.heap.size w w2) := HB1.out.trans (hb2.mono HB1.out.size)
    clear ho2 hb2 HO1
    have fin : Hid (∃ v ts', Ending.returned (.tuple #[l, .bool true]) = Ending.returned (.tuple #[v, .bool true]) ∧ ts'.length ≤ 600 ∧ Hid (s.size ≤ 600 → ts' = toks (Sp.clean s)) ∧ w2.ownsRow w.heap.size 35 3 v ts'.length (tokCells ts') ∧ Below w.heap.size w w2) :=
      ⟨l, ts, rfl, htl, fun _ => HT.out.symm, HO3.out, HB2.out⟩
    have h1 := HO3.out.2
    have h2 := HO2.out.2
    by_cases hn : ts.length = 0
    · have fl : ∃ (ad : Option Addr) (c : Nat), l = .slice ad 0 c := by
        rcases h1 with ⟨rfl, _⟩ | ⟨g, cap, cur, rfl, _⟩
        · exact ⟨none, 0, rfl⟩
        · exact ⟨some ⟨g, 0, none⟩, cap, by rw [hn]⟩
      have fm : ∃ (ad : Option Addr) (c : Nat), m = .slice ad 0 c := by
        rcases h2 with ⟨rfl, _⟩ | ⟨g, cap, cur, rfl, _⟩
        · exact ⟨none, 0, rfl⟩
        · exact ⟨some ⟨g, 0, none⟩, cap, by rw [hn]⟩
      obtain ⟨ad, cl, rfl⟩ := fl
      obtain ⟨ad2, cm, rfl⟩ := fm
      clear h1 h2 hn HO2 HO3
      go_wp2_with fail
      go_loopg [8] 0 (fun g v8 wr => v8 = .int .i64 0 ∧ Aside (w2 = wr))
      case atStart => exact ⟨rfl, rfl⟩
      case round =>
        obtain ⟨rfl, hA⟩ := hrel
        obtain rfl := hA.out
        clear hA
        go_wp2_with fail
        go_ret2
        exact fin.out
    · have fl : ∃ g cap, l = .slice (some ⟨g, 0, none⟩) ts.length cap := by
        rcases h1 with ⟨_, h⟩ | ⟨g, cap, cur, rfl, _⟩
        · exact absurd h hn
        · exact ⟨g, cap, rfl⟩
      have fm : ∃ g cap, m = .slice (some ⟨g, 0, none⟩) ts.length cap := by
        rcases h2 with ⟨_, h⟩ | ⟨g, cap, cur, rfl, _⟩
        · exact absurd h hn
        · exact ⟨g, cap, rfl⟩
      obtain ⟨g1, c1, rfl⟩ := fl
      obtain ⟨g2, c2, rfl⟩ := fm
      clear h1 h2 hn
      go_wp2_with fail
      go_loopg [8] ts.length (fun g v8 wr => ∃ j : Nat, j + g = ts.length ∧ v8 = .int .i64 (j : Int) ∧ Aside (∃ n, wr = w2.drewN n))
      case atStart => exact ⟨0, by omega, rfl, 0, rfl⟩
      case round =>
        obtain ⟨j, hj, rfl, hA⟩ := hrel
        obtain ⟨nd, rfl⟩ := hA.out
        clear hA
        by_cases hlt : j < ts.length
        · have hlt' : (j : Int) < (ts.length : Int) := by omega
          obtain ⟨a1, a2, a3⟩ := own_cells HO3.out j hlt
          obtain ⟨b1, b2, b3⟩ := own_cells HO2.out j hlt
          go_wp2_with fail
          go_quiet (fail)
          go_wp2_with fail
          go_roundg (gk - 1)
          case measure => omega
          case rel => exact ⟨j + 1, by omega, by congr 1, _, rfl⟩
        · have hlt' : (ts.length : Int) ≤ (j : Int) := by omega
          go_wp2_with fail
          go_ret2
          obtain ⟨v, ts', h1, h2, h3, h4, h5⟩ := fin.out
          exact ⟨v, ts', h1, h2, h3, h4, ⟨h5.os, h5.tape, h5.output, h5.size, h5.block⟩⟩
  · have hl : 600 < s.size := by omega
    have HS : Hid (¬ s.size ≤ 600) := hs
    clear hs
    go_enter Try.func4, Try.ntmps4
    go_wp2_with fail
    refine (Tokens_long s w hl hm).mono ?_
    rintro e wq ⟨rfl, hwq⟩
    rw [hwq]
    clear hwq wq
    go_wp2_with fail
    refine (RTokens_long s w hl hm).mono ?_
    rintro e wq ⟨rfl, hwq⟩
    rw [hwq]
    clear hwq wq
    go_wp2_with fail
    go_loopg [8] 0 (fun g v8 wr => v8 = .int .i64 0 ∧ Aside (w = wr))
    case atStart => exact ⟨rfl, rfl⟩
    case round =>
      obtain ⟨rfl, hA⟩ := hrel
      obtain rfl := hA.out
      clear hA
      go_wp2_with fail
      go_ret2
      exact ⟨.slice none 0 0, [], rfl, by simp, fun h => absurd h HS.out, World.ownsRow_nil _ _ _ _, Below.refl _ _⟩
end Go.Proofs.Ytlliliddljkbfaa
