import Derived.Test.YtlliliddljkbfaaGreatC1
import Derived.Test.YtlliliddljkbfaaGreatC2
import Derived.Test.YtlliliddljkbfaaGreatC5
import Derived.Test.YtlliliddljkbfaaGreatC6
import Derived.Conc.LoneCalls
import Derived.Deep.LoopGhost
namespace Go.Proofs.YtlliliddljkbfaaGreat
set_option maxHeartbeats 64000000
set_option maxRecDepth 100000
open Go.RowKit Sp
def u8s (l : List UInt8) : List Value := l.map fun b => Value.int .u8 (b.toNat : Int)
theorem u8s_append (a b : List UInt8) : u8s (a ++ b) = u8s a ++ u8s b := by simp [u8s]
theorem u8_oneCell (n : Int) : ∀ u ∈ [Value.int .u8 n], u.oneCell' = true := by simp [Value.oneCell']
theorem clB_len (s : ByteArray) (i : Nat) : (clB s i).length ≤ 1 := by
  unfold clB
  split
  · split
    · simp
    · split
      · simp
      · split <;> simp
  · simp
theorem cleanTo_len (s : ByteArray) : ∀ k, (cleanTo s k).length ≤ k
  | 0 => by simp [cleanTo]
  | k + 1 => by
    have := cleanTo_len s k
    have := clB_len s k
    simp [cleanTo]; omega
theorem clean_size (s : ByteArray) : (clean s).size ≤ s.size := by
  have := cleanTo_len s s.size
  show (cleanTo s s.size).toArray.size ≤ s.size
  simpa using this
theorem byte_at {s : ByteArray} {k : Nat} (h : k < s.size) (n : Nat) (hn : n < 256) : s[k] = UInt8.ofNat n ↔ pk s k = (n : Int) := by
  rw [pk_in h]
  constructor
  · intro e; rw [e]; simp; omega
  · intro e
    apply UInt8.toNat_inj.1
    simp; omega
theorem b13 {s : ByteArray} {k : Nat} (h : k < s.size) : s[k] = 13 ↔ pk s k = 13 := byte_at h 13 (by omega)
theorem b12 {s : ByteArray} {k : Nat} (h : k < s.size) : s[k] = 12 ↔ pk s k = 12 := byte_at h 12 (by omega)
theorem b00 {s : ByteArray} {k : Nat} (h : k < s.size) : s[k] = 0 ↔ pk s k = 0 := byte_at h 0 (by omega)
theorem clB_eq {s : ByteArray} {k : Nat} (h : k < s.size) : clB s k = if pk s k = 13 ∧ pk s (k + 1) = 10 then [] else if pk s k = 13 ∨ pk s k = 12 then [10] else if pk s k = 0 then [63] else [s[k]] := by
  unfold clB
  rw [dif_pos h]
  simp only [b13 h, b12 h, b00 h]
theorem clB_skip {s : ByteArray} {k : Nat} (h : k < s.size) (h1 : pk s k = 13) (h2 : pk s (k + 1) = 10) : clB s k = [] := by
  rw [clB_eq h, if_pos ⟨h1, h2⟩]
theorem clB_line {s : ByteArray} {k : Nat} (h : k < s.size) (h1 : pk s k = 13 ∨ pk s k = 12) (h2 : ¬ (pk s k = 13 ∧ pk s (k + 1) = 10)) : clB s k = [10] := by
  rw [clB_eq h, if_neg h2, if_pos h1]
theorem clB_nul {s : ByteArray} {k : Nat} (h : k < s.size) (h1 : pk s k = 0) : clB s k = [63] := by
  rw [clB_eq h, if_neg (by omega), if_neg (by omega), if_pos h1]
theorem clB_else {s : ByteArray} {k : Nat} (h : k < s.size) (h1 : pk s k ≠ 13) (h2 : pk s k ≠ 12) (h3 : pk s k ≠ 0) : clB s k = [s[k]] := by
  rw [clB_eq h, if_neg (by omega), if_neg (by omega), if_neg h3]
theorem clean_c (s : ByteArray) (w : World) (hs : s.size ≤ 600) :
    Calls Tryz.prog 111 #[.string s] w fun e w' => e = .returned (.string (Sp.clean s)) ∧ Below w.heap.size w w' := by
  obtain ⟨iU, hiU, hzU, hsU, hbU⟩ := info_u8
  have HI : Hid (Tryz.prog.info? 5 = some iU ∧ iU.zero = some (.int .u8 0) ∧ iU.size = 1 ∧ iU.bytes = 1) := ⟨hiU, hzU, hsU, hbU⟩
  clear hiU hzU hsU hbU
  go_enter Tryz.func111, Tryz.ntmps111
  go_wp2_with (at_make; refine wpList_make_own _ rfl _ _ 145 rfl w.heap.size 5 iU (.int .u8 0) 1 Tryz.underlying145 HI.out.1 HI.out.2.1 HI.out.2.2.1 _ _ _ s.size rfl rfl rfl ?_ ?_ ?_ ?_)
  · rw [HI.out.2.2.2]; omega
  · unfold maxLen; omega
  · exact Nat.le_refl _
  intro w1 hown1 hgr1
  have HB1 : Hid (Below w.heap.size w w1) := (Below.refl _ _).grown hgr1 (Nat.le_refl _) (fun _ h => by cases h)
  have HO1 : Hid (w1.ownsRow w.heap.size 5 1 (.slice (some ⟨w.heap.size, 0, none⟩) 0 s.size) 0 []) := hown1
  clear hown1 hgr1
  go_wp2_with fail
  go_loopg [3, 11] s.size (fun g v3 v11 wr => ∃ (v : Value) (k : Nat), v = v3 ∧ k + g = s.size ∧ v11 = .int .i64 (k : Int) ∧ Aside (wr.ownsRow w.heap.size 5 1 v (cleanTo s k).length (u8s (cleanTo s k)) ∧ Below w.heap.size w wr))
  case atStart => exact ⟨_, 0, rfl, by omega, rfl, HO1.out, HB1.out⟩
  case round =>
    obtain ⟨v3, k, rfl, hk, rfl, hA⟩ := hrel
    have HO : Hid (wr.ownsRow w.heap.size 5 1 v3 (cleanTo s k).length (u8s (cleanTo s k))) := hA.out.1
    have HB : Hid (Below w.heap.size w wr) := hA.out.2
    clear hA
    have hcl := cleanTo_len s k
    by_cases hlt : k < s.size
    · have hix := index_pk s k hlt
      have hsz := HB.out.size
      have hnn := pk_nn hlt
      have hhi := pk_hi s k
      have HT : Hid (cleanTo s (k + 1) = cleanTo s k ++ clB s k) := rfl
      by_cases h13 : pk s k = 13
      · have e1 : (pk s k == 13) = true := by rw [h13]; rfl
        by_cases hnx : k + 1 < s.size
        · have hnx' : (k : Int) + 1 < (s.size : Int) := by omega
          have hix2 : ∀ w : World, (Instr.index 9 (.string s) (.int .i64 ((k : Int) + 1))).run Tryz.prog w = .ok (.int .u8 (pk s (k + 1))) w := fun w => index_pk s (k + 1) hnx w
          by_cases h10 : pk s (k + 1) = 10
          · have e2 : (pk s (k + 1) == 10) = true := by rw [h10]; rfl
            have HC : Hid (cleanTo s (k + 1) = cleanTo s k) := by show _ = _; rw [HT.out, clB_skip hlt h13 h10, List.append_nil]
            clear h13 h10
            go_wp2_with fail
            go_roundg (gk - 1)
            case measure => omega
            case rel => exact ⟨v3, k + 1, rfl, by omega, by congr 1, by rw [HC.out]; exact HO.out, HB.out⟩
          · have e2 : (pk s (k + 1) == 10) = false := by simpa using h10
            have HC : Hid (cleanTo s (k + 1) = cleanTo s k ++ [10]) := by show _ = _; rw [HT.out, clB_line hlt (.inl h13) (fun h => h10 h.2)]
            clear h13 h10
            go_wp2_with (at_builtin; refine wpList_append_own _ rfl _ _ 145 rfl w.heap.size 5 iU (.int .u8 0) 1 1 Tryz.underlying145 HI.out.1 HI.out.2.1 HI.out.2.2.1 HI.out.2.2.2 rfl (by omega) v3 (cleanTo s k).length (u8s (cleanTo s k)) rfl (HO.out.alloc _) ⟨wr.heap.size, 0, none⟩ 1 1 [.int .u8 (10)] rfl rfl (cell_one_new _ _ _) (u8_oneCell _) ?_ ?_ ?_ ?_)
            · unfold maxLen; omega
            · omega
            · first | omega | (simp; omega)
            intro v4 w2 hown2 hgr2 _
            have HO2 : Hid (w2.ownsRow w.heap.size 5 1 v4 ((cleanTo s k).length + 1) (u8s (cleanTo s k) ++ [.int .u8 (10)])) := hown2
            have HB2 : Hid (Below w.heap.size w w2) := (HB.out.alloc hsz _).grown hgr2 (by first | omega | (simp; omega)) (fun r hr => (HO.out.lt r hr).1)
            clear hown2 hgr2
            go_wp2_with fail
            go_roundg (gk - 1)
            case measure => omega
            case rel =>
              refine ⟨v4, k + 1, rfl, by omega, by congr 1, ?_, HB2.out⟩
              rw [HC.out, u8s_append, List.length_append]
              exact HO2.out
        · have hnx' : (s.size : Int) ≤ (k : Int) + 1 := by omega
          have HC : Hid (cleanTo s (k + 1) = cleanTo s k ++ [10]) := by show _ = _; rw [HT.out, clB_line hlt (.inl h13) (fun h => by have := pk_lt (s := s) (i := k + 1) (by omega); omega)]
          clear h13
          go_wp2_with (at_builtin; refine wpList_append_own _ rfl _ _ 145 rfl w.heap.size 5 iU (.int .u8 0) 1 1 Tryz.underlying145 HI.out.1 HI.out.2.1 HI.out.2.2.1 HI.out.2.2.2 rfl (by omega) v3 (cleanTo s k).length (u8s (cleanTo s k)) rfl (HO.out.alloc _) ⟨wr.heap.size, 0, none⟩ 1 1 [.int .u8 (10)] rfl rfl (cell_one_new _ _ _) (u8_oneCell _) ?_ ?_ ?_ ?_)
          · unfold maxLen; omega
          · omega
          · first | omega | (simp; omega)
          intro v4 w2 hown2 hgr2 _
          have HO2 : Hid (w2.ownsRow w.heap.size 5 1 v4 ((cleanTo s k).length + 1) (u8s (cleanTo s k) ++ [.int .u8 (10)])) := hown2
          have HB2 : Hid (Below w.heap.size w w2) := (HB.out.alloc hsz _).grown hgr2 (by first | omega | (simp; omega)) (fun r hr => (HO.out.lt r hr).1)
          clear hown2 hgr2
          go_wp2_with fail
          go_roundg (gk - 1)
          case measure => omega
          case rel =>
            refine ⟨v4, k + 1, rfl, by omega, by congr 1, ?_, HB2.out⟩
            rw [HC.out, u8s_append, List.length_append]
            exact HO2.out
      · have e1 : (pk s k == 13) = false := by simpa using h13
        by_cases h12 : pk s k = 12
        · have e2 : (pk s k == 12) = true := by rw [h12]; rfl
          have HC : Hid (cleanTo s (k + 1) = cleanTo s k ++ [10]) := by show _ = _; rw [HT.out, clB_line hlt (.inr h12) (fun h => h13 h.1)]
          clear h13 h12
          go_wp2_with (at_builtin; refine wpList_append_own _ rfl _ _ 145 rfl w.heap.size 5 iU (.int .u8 0) 1 1 Tryz.underlying145 HI.out.1 HI.out.2.1 HI.out.2.2.1 HI.out.2.2.2 rfl (by omega) v3 (cleanTo s k).length (u8s (cleanTo s k)) rfl (HO.out.alloc _) ⟨wr.heap.size, 0, none⟩ 1 1 [.int .u8 (10)] rfl rfl (cell_one_new _ _ _) (u8_oneCell _) ?_ ?_ ?_ ?_)
          · unfold maxLen; omega
          · omega
          · first | omega | (simp; omega)
          intro v4 w2 hown2 hgr2 _
          have HO2 : Hid (w2.ownsRow w.heap.size 5 1 v4 ((cleanTo s k).length + 1) (u8s (cleanTo s k) ++ [.int .u8 (10)])) := hown2
          have HB2 : Hid (Below w.heap.size w w2) := (HB.out.alloc hsz _).grown hgr2 (by first | omega | (simp; omega)) (fun r hr => (HO.out.lt r hr).1)
          clear hown2 hgr2
          go_wp2_with fail
          go_roundg (gk - 1)
          case measure => omega
          case rel =>
            refine ⟨v4, k + 1, rfl, by omega, by congr 1, ?_, HB2.out⟩
            rw [HC.out, u8s_append, List.length_append]
            exact HO2.out
        · have e2 : (pk s k == 12) = false := by simpa using h12
          by_cases h0 : pk s k = 0
          · have e3 : (pk s k == 0) = true := by rw [h0]; rfl
            have HC : Hid (cleanTo s (k + 1) = cleanTo s k ++ [63]) := by show _ = _; rw [HT.out, clB_nul hlt h0]
            clear h13 h12 h0
            go_wp2_with (at_builtin; refine wpList_append_own _ rfl _ _ 145 rfl w.heap.size 5 iU (.int .u8 0) 1 1 Tryz.underlying145 HI.out.1 HI.out.2.1 HI.out.2.2.1 HI.out.2.2.2 rfl (by omega) v3 (cleanTo s k).length (u8s (cleanTo s k)) rfl (HO.out.alloc _) ⟨wr.heap.size, 0, none⟩ 1 1 [.int .u8 (63)] rfl rfl (cell_one_new _ _ _) (u8_oneCell _) ?_ ?_ ?_ ?_)
            · unfold maxLen; omega
            · omega
            · first | omega | (simp; omega)
            intro v4 w2 hown2 hgr2 _
            have HO2 : Hid (w2.ownsRow w.heap.size 5 1 v4 ((cleanTo s k).length + 1) (u8s (cleanTo s k) ++ [.int .u8 (63)])) := hown2
            have HB2 : Hid (Below w.heap.size w w2) := (HB.out.alloc hsz _).grown hgr2 (by first | omega | (simp; omega)) (fun r hr => (HO.out.lt r hr).1)
            clear hown2 hgr2
            go_wp2_with fail
            go_roundg (gk - 1)
            case measure => omega
            case rel =>
              refine ⟨v4, k + 1, rfl, by omega, by congr 1, ?_, HB2.out⟩
              rw [HC.out, u8s_append, List.length_append]
              exact HO2.out
          · have e3 : (pk s k == 0) = false := by simpa using h0
            have HC : Hid (cleanTo s (k + 1) = cleanTo s k ++ [s[k]]) := by show _ = _; rw [HT.out, clB_else hlt h13 h12 h0]
            have HP : Hid (pk s k = (s[k].toNat : Int)) := pk_in hlt
            clear h13 h12 h0
            go_wp2_with (at_builtin; refine wpList_append_own _ rfl _ _ 145 rfl w.heap.size 5 iU (.int .u8 0) 1 1 Tryz.underlying145 HI.out.1 HI.out.2.1 HI.out.2.2.1 HI.out.2.2.2 rfl (by omega) v3 (cleanTo s k).length (u8s (cleanTo s k)) rfl (HO.out.alloc _) ⟨wr.heap.size, 0, none⟩ 1 1 [.int .u8 (pk s k)] rfl rfl (cell_one_new _ _ _) (u8_oneCell _) ?_ ?_ ?_ ?_)
            · unfold maxLen; omega
            · omega
            · first | omega | (simp; omega)
            intro v4 w2 hown2 hgr2 _
            have HO2 : Hid (w2.ownsRow w.heap.size 5 1 v4 ((cleanTo s k).length + 1) (u8s (cleanTo s k) ++ [.int .u8 (pk s k)])) := hown2
            have HB2 : Hid (Below w.heap.size w w2) := (HB.out.alloc hsz _).grown hgr2 (by first | omega | (simp; omega)) (fun r hr => (HO.out.lt r hr).1)
            clear hown2 hgr2
            go_wp2_with fail
            go_roundg (gk - 1)
            case measure => omega
            case rel =>
              refine ⟨v4, k + 1, rfl, by omega, by congr 1, ?_, HB2.out⟩
              rw [HC.out, u8s_append, List.length_append]
              have h2 := HO2.out
              rw [HP.out] at h2
              exact h2
    · have hcv : (convert 145 9 v3).run Tryz.prog wr = .ok (.string (Sp.clean s)) wr := by
        have e : k = s.size := by omega
        have h1 := HO.out
        rw [e] at h1
        exact conv_own (P := Tryz.prog) wr 145 9 5 Tryz.underlying145 Tryz.underlying5 Tryz.underlying9 (cleanTo s s.size) h1
      go_wp2_with fail
      go_ret
      exact ⟨rfl, HB.out⟩
end Go.Proofs.YtlliliddljkbfaaGreat
namespace Go.Proofs.YtlliliddljkbfaaGreat
set_option maxHeartbeats 64000000
set_option maxRecDepth 100000
open Go Go.Conc Go.RowKit
def NWp (P : Program) (c : Code) (Q : Exit → Act → World → Prop) (a : Act) (w : World) : Prop :=
  ∀ (b : Frame) (k : List Item) (cs : List Frame), b.kind ≠ .early → ∃ e a' w', Q e a' w' ∧ Arrives P (lone (b.at a (.code c :: k)) cs w) b k cs e a' w'
section
variable {P : Program} {Q : Exit → Act → World → Prop} {a : Act} {w : World}
theorem nwp_of_wp {c : Code} (h : c.wp P Q a w) : NWp P c Q a w := fun b k cs _ => h b k cs
theorem nwp_seq {x y : Code} (h : NWp P x (Exit.then (NWp P y Q) Q) a w) : NWp P (.seq x y) Q a w := by
  intro b k cs hb
  obtain ⟨e, a1, w1, hq, harr⟩ := h b (.code y :: k) cs hb
  have s0 : Steps P (lone (b.at a (.code (.seq x y) :: k)) cs w) (lone (b.at a (.code x :: .code y :: k)) cs w) := .one step_seq
  cases e with
  | normal =>
    obtain ⟨e2, a2, w2, hq2, harr2⟩ := hq b k cs hb
    exact ⟨e2, a2, w2, hq2, .of_steps (s0.trans harr) harr2⟩
  | exit id => exact ⟨_, a1, w1, hq, .of_steps s0 (.pass (x := .code y) rfl (fun _ _ => .inl (by simp)) harr)⟩
  | goto l => exact ⟨_, a1, w1, hq, .of_steps s0 (.pass (x := .code y) rfl (fun _ _ => .inl (by simp)) harr)⟩
  | ret => exact ⟨_, a1, w1, hq, .of_steps s0 (.pass (x := .code y) rfl (fun _ _ => .inl (by simp)) harr)⟩
  | panic ch => exact ⟨_, a1, w1, hq, .of_steps s0 (.pass (x := .code y) rfl (fun _ _ => .inl (by simp)) harr)⟩
  | outgrown => exact ⟨_, a1, w1, hq, .of_steps s0 (.pass (x := .code y) rfl (fun _ _ => .inl (by simp)) harr)⟩
theorem nwp_block {id : Nat} {c : Code} (h : NWp P c (Exit.inBlock id Q) a w) : NWp P (.block id c) Q a w := by
  intro b k cs hb
  obtain ⟨e, a1, w1, hq, harr⟩ := h b (.inBlock id :: k) cs hb
  have s0 : Steps P (lone (b.at a (.code (.block id c) :: k)) cs w) (lone (b.at a (.code c :: .inBlock id :: k)) cs w) := .one step_block
  cases e with
  | normal => exact ⟨.normal, a1, w1, hq, (s0.trans harr).trans (.one step_inBlock)⟩
  | exit j =>
    by_cases hj : j = id
    · subst hj
      have hq' : Q .normal a1 w1 := by simpa [Exit.inBlock] using hq
      exact ⟨.normal, a1, w1, hq', s0.trans (harr k (by simp [exitTo]))⟩
    · have hq' : Q (.exit j) a1 w1 := by simpa [Exit.inBlock, hj] using hq
      refine ⟨.exit j, a1, w1, hq', fun k' hk => s0.trans (harr k' ?_)⟩
      have hj' : ¬ id = j := fun e => hj e.symm
      simp [exitTo, hj', hk]
  | goto l => exact ⟨.goto l, a1, w1, hq, fun k' hk => s0.trans (harr k' (by simpa [gotoIn] using hk))⟩
  | ret => exact ⟨.ret, a1, w1, hq, .of_steps s0 harr⟩
  | panic ch => exact ⟨.panic ch, a1, w1, hq, .of_steps s0 harr⟩
  | outgrown => exact ⟨.outgrown, a1, w1, hq, .of_steps (b := b) (k := k) (cs := cs) (e := .outgrown) s0 harr⟩
theorem nwp_loop {c : Code} (I : Nat → Act → World → Prop) (n : Nat) (h0 : I n a w)
    (round : ∀ n a w, I n a w → NWp P c (Exit.then (fun a' w' => ∃ n', n' < n ∧ I n' a' w') Q) a w) : NWp P (.loop c) Q a w := by
  intro b k cs hb
  have key : ∀ n a w, I n a w → ∃ e a' w', Q e a' w' ∧ Arrives P (lone (b.at a (.code c :: .inLoop c :: k)) cs w) b k cs e a' w' := by
    intro n
    induction n using Nat.strongRecOn with
    | _ n ih =>
      intro a w hI
      obtain ⟨e, a1, w1, hq, harr⟩ := round n a w hI b (.inLoop c :: k) cs hb
      cases e with
      | normal =>
        obtain ⟨n', hlt, hI'⟩ := hq
        obtain ⟨e2, a2, w2, hq2, harr2⟩ := ih n' hlt a1 w1 hI'
        exact ⟨e2, a2, w2, hq2, .of_steps (Steps.trans harr (.one step_inLoop)) harr2⟩
      | exit id => exact ⟨_, a1, w1, hq, .pass (x := .inLoop c) rfl (fun _ _ => .inl (by simp)) harr⟩
      | goto l => exact ⟨_, a1, w1, hq, .pass (x := .inLoop c) rfl (fun _ _ => .inl (by simp)) harr⟩
      | ret => exact ⟨_, a1, w1, hq, .pass (x := .inLoop c) rfl (fun _ _ => .inl (by simp)) harr⟩
      | panic ch => exact ⟨_, a1, w1, hq, .pass (x := .inLoop c) rfl (fun _ _ => .inl (by simp)) harr⟩
      | outgrown => exact ⟨_, a1, w1, hq, .pass (x := .inLoop c) rfl (fun _ _ => .inl (by simp)) harr⟩
  obtain ⟨e, a', w', hq, harr⟩ := key n a w h0
  exact ⟨e, a', w', hq, .of_steps (.one step_loop) harr⟩
theorem nwp_scope_fwd {c : Code} (h : ∀ Q' : Exit → Act → World → Prop, Fwd P c Q Q' → NWp P c Q' a w) : NWp P (.scope c) Q a w := by
  have h' := h (fwdQ P c Q) ⟨fun l rest a w hf hr => ⟨rest, hf, hr⟩, fun a w hq => hq, fun a w hq => hq, fun e a w hq => by cases e <;> first | exact hq | exact hq.elim⟩
  intro b k cs hb
  obtain ⟨e, a1, w1, hq, harr⟩ := h' b (.inScope c :: k) cs hb
  cases e with
  | normal => exact ⟨.normal, a1, w1, hq, .head step_scope (Steps.trans harr (.one step_inScope))⟩
  | exit id => exact ⟨.exit id, a1, w1, hq, fun k' hk => .head step_scope (harr k' (by simp [exitTo, hk]))⟩
  | goto l =>
    obtain ⟨rest, hf, hr⟩ := hq
    have hg : gotoIn l (.inScope c :: k) = some (.code rest :: .inScope c :: k) := by simp [gotoIn, hf]
    obtain ⟨e2, a2, w2, hq2, harr2⟩ := hr b (.inScope c :: k) cs
    have hs := Steps.head (P := P) step_scope (harr _ hg)
    cases e2 with
    | normal => exact ⟨.normal, a2, w2, hq2, Steps.trans hs (Steps.trans harr2 (.one step_inScope))⟩
    | exit id => exact ⟨.exit id, a2, w2, hq2, fun k' hk => Steps.trans hs (harr2 k' (by simp [exitTo, hk]))⟩
    | goto l' => exact hq2.elim
    | ret => exact ⟨_, a2, w2, hq2, .of_steps hs harr2⟩
    | panic ch => exact ⟨_, a2, w2, hq2, .of_steps hs harr2⟩
    | outgrown => exact ⟨_, a2, w2, hq2, .of_steps hs harr2⟩
  | ret => exact ⟨_, a1, w1, hq, .of_steps (.one step_scope) harr⟩
  | panic ch => exact ⟨_, a1, w1, hq, .of_steps (.one step_scope) harr⟩
  | outgrown => exact ⟨_, a1, w1, hq, .of_steps (.one step_scope) harr⟩
theorem calls_of_nwp {f : FuncId} {fn : Func} {c : Code} {args : Array Value} {R : Ending → World → Prop}
    (hf : P.funcs[f]? = some fn) (hb : fn.body = some c)
    (h : NWp P c (bodyPost P fn R) { tmps := args ++ Array.replicate (fn.ntmps - args.size) undef, defers := [] } w) : Calls P f args w R := by
  intro cs
  let b : Frame := { (default : Frame) with fn := f, kind := .normal }
  have henter : Frame.enter P f args .normal = b.at { tmps := args ++ Array.replicate (fn.ntmps - args.size) undef, defers := [] } [.code c] := by
    simp [Frame.enter, Frame.at, hf, hb, b]
  obtain ⟨e, a', w', hq, harr⟩ := h b [] cs (by simp [b])
  rw [← henter] at harr
  cases e with
  | normal =>
    obtain ⟨hd, v, hr, hR⟩ := hq
    exact ⟨.returned v, w', _, hR, Steps.trans harr (.one step_end), rfl, rfl, hd, rfl, fn, hf, hr⟩
  | ret =>
    obtain ⟨hd, v, hr, hR⟩ := hq
    obtain ⟨todo, hs⟩ := harr
    exact ⟨.returned v, w', _, hR, hs, rfl, rfl, hd, rfl, fn, hf, hr⟩
  | panic chain =>
    obtain ⟨hd, hR⟩ := hq
    obtain ⟨todo, hs⟩ := harr
    exact ⟨.panicked chain, w', _, hR, hs, rfl, rfl, hd, fn, hf⟩
  | exit id => exact hq.elim
  | goto l => exact hq.elim
  | outgrown => exact ⟨.outgrown, w', b, hq, harr.resolve_left (by simp [b]), rfl, trivial⟩
def Left (P : Program) (ops : Array Oper) (Q : Exit → Act → World → Prop) (l : List Nat) (a : Act) (w : World) : Prop :=
  ∀ (b : Frame) (k : List Item) (cs : List Frame), b.kind ≠ .early → ∃ e a' w', Q e a' w' ∧ Arrives P (lone (b.at a (.inRegion ops l :: k)) cs w) b k cs e a' w'
variable {ops : Array Oper} {i : Nat} {rest : List Nat} {o : Oper}
theorem nwp_region {id : Nat} (h : Left P ops Q (List.range ops.size) a w) : NWp P (.region id ops false) Q a w := by
  intro b k cs hb
  obtain ⟨e, a1, w1, hq, harr⟩ := h b k cs hb
  exact ⟨e, a1, w1, hq, .of_steps (.one step_region) harr⟩
theorem left_nil (h : Q .normal a w) : Left P ops Q [] a w := fun _ _ _ _ => ⟨.normal, a, w, h, .one step_region_end⟩
theorem left_value {v : Value} {w' : World} (ho : ops[i]? = some o) (hw : Region.wanted o (yielded ops a.tmps) = true) (hr : (execOp a.eval o).run P w = .ok (.value v) w')
    (h : Left P ops Q rest (a.put o.dst v) w') : Left P ops Q (i :: rest) a w := by
  intro b k cs hb
  obtain ⟨e, a1, w1, hq, harr⟩ := h b k cs hb
  have hg := stepG_op (P := P) (b := b) (k := k) (cs := cs) (w := w) (rest := rest) ho hw
  have hfin : (b.at a (.inRegion ops (i :: rest) :: k)).finish v = b.at (a.put o.dst v) (.inRegion ops rest :: k) := by rw [Frame.finish_at, ho]; rfl
  refine ⟨e, a1, w1, hq, .of_steps (.one (step_lone_go ?_)) harr⟩
  rw [hg, ← hfin]; simp [stepG.apply, hr]
theorem left_call {f : FuncId} {args : Array Value} {w' : World} {S : Value → World → Prop} (ho : ops[i]? = some o) (hw : Region.wanted o (yielded ops a.tmps) = true) (hr : (execOp a.eval o).run P w = .ok (.enter f args) w')
    (hc : Calls P f args w' fun e w2 => ∃ v, e = .returned v ∧ S v w2)
    (h : ∀ v w2, S v w2 → Left P ops Q rest (a.put o.dst v) w2) : Left P ops Q (i :: rest) a w := by
  intro b k cs hb
  obtain ⟨e, w2, fr, ⟨v, rfl, hS⟩, hsteps, _, hleave⟩ := hc (b.at a (.inRegion ops (i :: rest) :: k) :: cs)
  obtain ⟨e, a1, w1, hq, harr⟩ := h v w2 hS b k cs hb
  have hg := stepG_op (P := P) (b := b) (k := k) (cs := cs) (w := w) (rest := rest) ho hw
  have hfin : (b.at a (.inRegion ops (i :: rest) :: k)).finish v = b.at (a.put o.dst v) (.inRegion ops rest :: k) := by rw [Frame.finish_at, ho]; rfl
  have henter : step P (lone (b.at a (.inRegion ops (i :: rest) :: k)) cs w) = .next (lone (Frame.enter P f args .normal) (b.at a (.inRegion ops (i :: rest) :: k) :: cs) w') :=
    step_lone_go (by rw [hg]; simp [stepG.apply, hr, Frame.at])
  refine ⟨e, a1, w1, hq, .of_steps (.head henter (Steps.trans hsteps (.one ?_))) harr⟩
  rw [← hfin]; exact step_leave_returned hleave
theorem left_send {c cap s r : Nat} {buf : Array Value} {v z' : Value} {tm : Bool} {w1 : World} (ho : ops[i]? = some o) (hw : Region.wanted o (yielded ops a.tmps) = true)
    (hr : (execOp a.eval o).run P w = .ok (.comm #[scase c v z'] true .send) w1) (hc : w1.heap[c]? = some (.chan cap buf false s r tm)) (hroom : buf.size < cap)
    (h : Left P ops Q rest (a.put o.dst undef) (w1.setChan c cap (buf.push v) false (s + 1) r tm)) : Left P ops Q (i :: rest) a w := by
  intro b k cs hb
  obtain ⟨e, a1, w2, hq, harr⟩ := h b k cs hb
  have hfin : (b.at a (.inRegion ops (i :: rest) :: k)).finish undef = b.at (a.put o.dst undef) (.inRegion ops rest :: k) := by rw [Frame.finish_at, ho]; rfl
  have hst := step_lone_send_room (P := P) (cs := cs) (stepG_comm (main := true) (cs := cs) (k := k) (rest := rest) ho hw hb hr) hc hroom
  rw [hfin] at hst
  exact ⟨e, a1, w2, hq, .of_steps (.one hst) harr⟩
theorem left_recv {c cap s r : Nat} {buf : Array Value} {z : Value} {tm closed : Bool} {w1 : World} (ho : ops[i]? = some o) (hw : Region.wanted o (yielded ops a.tmps) = true)
    (hr : (execOp a.eval o).run P w = .ok (.comm #[rcase c z] true (.recv true)) w1) (hc : w1.heap[c]? = some (.chan cap buf closed s r tm)) (hsome : 0 < buf.size)
    (h : Left P ops Q rest (a.put o.dst (.tuple #[buf.getD 0 undef, .bool true])) (w1.setChan c cap (buf.extract 1 buf.size) closed s (r + 1) tm)) : Left P ops Q (i :: rest) a w := by
  intro b k cs hb
  obtain ⟨e, a1, w2, hq, harr⟩ := h b k cs hb
  have hfin : (b.at a (.inRegion ops (i :: rest) :: k)).finish (got true (buf.getD 0 undef) true) = b.at (a.put o.dst (.tuple #[buf.getD 0 undef, .bool true])) (.inRegion ops rest :: k) := by rw [Frame.finish_at, ho]; rfl
  have hst := step_lone_recv_buf (P := P) (cs := cs) true (stepG_comm (main := true) (cs := cs) (k := k) (rest := rest) ho hw hb hr) hc hsome
  rw [hfin] at hst
  exact ⟨e, a1, w2, hq, .of_steps (.one hst) harr⟩
theorem left_recv_shut {c cap s r : Nat} {z : Value} {tm : Bool} {w1 : World} (ho : ops[i]? = some o) (hw : Region.wanted o (yielded ops a.tmps) = true)
    (hr : (execOp a.eval o).run P w = .ok (.comm #[rcase c z] true (.recv true)) w1) (hc : w1.heap[c]? = some (.chan cap #[] true s r tm))
    (h : Left P ops Q rest (a.put o.dst (.tuple #[z, .bool false])) w1) : Left P ops Q (i :: rest) a w := by
  intro b k cs hb
  obtain ⟨e, a1, w2, hq, harr⟩ := h b k cs hb
  have hfin : (b.at a (.inRegion ops (i :: rest) :: k)).finish (got true z false) = b.at (a.put o.dst (.tuple #[z, .bool false])) (.inRegion ops rest :: k) := by rw [Frame.finish_at, ho]; rfl
  have hst := step_lone_recv_shut (P := P) (cs := cs) true (stepG_comm (main := true) (cs := cs) (k := k) (rest := rest) ho hw hb hr) hc
  rw [hfin] at hst
  exact ⟨e, a1, w2, hq, .of_steps (.one hst) harr⟩
end
end Go.Proofs.YtlliliddljkbfaaGreat
