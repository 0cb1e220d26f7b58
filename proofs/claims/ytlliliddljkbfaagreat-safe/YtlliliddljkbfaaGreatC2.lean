import Derived.Test.YtlliliddljkbfaaGreatC1
import Derived.Handy
import Derived.OrdersHeld
import Derived.Deep.RegionHeld
import Derived.Deep.QuietTactic
import Derived.Deep.LoopGhost
import Derived.BigQuiet
import Derived.ScopeJumps
import Derived.WalkMore
namespace Go.Proofs.YtlliliddljkbfaaGreat
set_option maxHeartbeats 64000000
set_option maxRecDepth 100000
open Go.RowKit Sp
section
structure Turn (b : Nat) (w w' : World) : Prop where
  os : w'.os = w.os
  tape : w'.tape = w.tape
  output : w'.output = w.output
  size : w.heap.size ≤ w'.heap.size
  block : ∀ k, k < w.heap.size → k ≠ b → w'.heap[k]? = w.heap[k]?
theorem Turn.refl (b : Nat) (w : World) : Turn b w w := ⟨rfl, rfl, rfl, Nat.le_refl _, fun _ _ _ => rfl⟩
theorem Turn.trans {b : Nat} {x y z : World} (h : Turn b x y) (k : Turn b y z) : Turn b x z :=
  ⟨k.os.trans h.os, k.tape.trans h.tape, k.output.trans h.output, Nat.le_trans h.size k.size, fun i hi hb => (k.block i (Nat.lt_of_lt_of_le hi h.size) hb).trans (h.block i hi hb)⟩
theorem Turn.drewN {b : Nat} {x y : World} (h : Turn b x y) (n : Nat) : Turn b x (y.drewN n) := ⟨h.os, h.tape, h.output, h.size, h.block⟩
theorem Turn.drew {b : Nat} {x y : World} (h : Turn b x y) : Turn b x y.drew := ⟨h.os, h.tape, h.output, h.size, h.block⟩
theorem Turn.alloc {b : Nat} {x y : World} (h : Turn b x y) (o : Obj) : Turn b x (y.alloc o) :=
  h.trans ⟨rfl, rfl, rfl, by simp, fun k hk _ => Below.heap_alloc _ _ _ hk⟩
theorem Turn.setCell {b : Nat} {x y : World} (h : Turn b x y) (o : Nat) (v : Value) : Turn b x (y.setCell ⟨b, o, none⟩ v) :=
  h.trans ⟨rfl, rfl, rfl, by simp [World.setCell], fun k _ hb => Below.heap_setCell _ _ _ _ hb⟩
theorem Turn.below {b B : Nat} {x y : World} (h : Turn b x y) (hB : B ≤ b) (hx : B ≤ x.heap.size) : Below B x y :=
  ⟨h.os, h.tape, h.output, h.size, fun k hk => h.block k (by omega) (by omega)⟩
theorem Turn.of_below {b : Nat} {x y : World} (h : Below x.heap.size x y) : Turn b x y :=
  ⟨h.os, h.tape, h.output, h.size, fun k hk _ => h.block k hk⟩
theorem Turn.cell {b : Nat} {x y : World} (h : Turn b x y) {p : Addr} (hp : p.block < x.heap.size) (hb : p.block ≠ b) : y.cell? p = x.cell? p := World.cell?_of_block (w := x) (h.block p.block hp hb)
structure Sc (w : World) (b : Nat) (s : ByteArray) (i : Nat) : Prop where
  blk : w.heap[b]? = some (.cells #[.string s, .int .i64 (i : Int)] 201 (0, 0))
  glob : ∃ m, w.cell? ⟨0, 0, none⟩ = some (.int .i64 m)
  pos : 0 < b
  len : s.size ≤ 600
  le : i ≤ s.size
section
variable {w : World} {b : Nat} {s : ByteArray} {i : Nat}
theorem Sc.lt (h : Sc w b s i) : b < w.heap.size := by
  by_cases h1 : b < w.heap.size
  · exact h1
  · have := h.blk; rw [Array.getElem?_eq_none (by omega)] at this; cases this
theorem Sc.c0 (h : Sc w b s i) : w.cell? ⟨b, 0, none⟩ = some (.string s) := by unfold World.cell?; rw [h.blk]; rfl
theorem Sc.c1 (h : Sc w b s i) : w.cell? ⟨b, 1, none⟩ = some (.int .i64 (i : Int)) := by unfold World.cell?; rw [h.blk]; rfl
theorem Sc.f1 (h : Sc w b s i) : w.frozen? ⟨b, 1, none⟩ = false := by unfold World.frozen?; rw [h.blk]; rfl
theorem Sc.drewN (h : Sc w b s i) (n : Nat) : Sc (w.drewN n) b s i := ⟨h.blk, h.glob, h.pos, h.len, h.le⟩
theorem Sc.drew (h : Sc w b s i) : Sc w.drew b s i := ⟨h.blk, h.glob, h.pos, h.len, h.le⟩
theorem Sc.set (h : Sc w b s i) (j : Nat) (hj : j ≤ s.size) : Sc (w.setCell ⟨b, 1, none⟩ (.int .i64 (j : Int))) b s j := by
  refine ⟨?_, ?_, h.pos, h.len, hj⟩
  · simp only [World.setCell, Array.getElem?_modify, h.blk]
    simp
  · obtain ⟨m, hm⟩ := h.glob
    exact ⟨m, by rw [← hm]; exact World.cell?_of_block (w := w) (Below.heap_setCell _ _ _ _ (by have := h.pos; show (0 : Nat) ≠ b; omega))⟩
theorem Sc.alloc (h : Sc w b s i) (o : Obj) : Sc (w.alloc o) b s i := by
  have hl := h.lt
  refine ⟨?_, ?_, h.pos, h.len, h.le⟩
  · rw [Below.heap_alloc _ _ _ hl]; exact h.blk
  · obtain ⟨m, hm⟩ := h.glob
    exact ⟨m, by rw [← hm]; exact World.cell?_of_block (w := w) (Below.heap_alloc _ _ _ (by show 0 < w.heap.size; have := h.pos; omega))⟩
theorem Sc.kept (h : Sc w b s i) {w' : World} {c : Nat} (ht : Turn c w w') (hc : b ≠ c) (h0 : 0 < c) : Sc w' b s i := by
  have hl := h.lt
  have hp := h.pos
  refine ⟨?_, ?_, h.pos, h.len, h.le⟩
  · rw [ht.block b hl hc]; exact h.blk
  · obtain ⟨m, hm⟩ := h.glob
    exact ⟨m, by rw [← hm]; exact ht.cell (by show 0 < w.heap.size; omega) (by show (0 : Nat) ≠ c; omega)⟩
end
theorem index_pk (s : ByteArray) (i : Nat) (h : i < s.size) (w : World) : (Instr.index 9 (.string s) (.int .i64 (i : Int))).run Tryz.prog w = .ok (.int .u8 (pk s i)) w := by
  rw [run_index_string w 9 s .i64 i Tryz.underlying9, dif_pos ⟨by omega, by omega⟩, pk_in h]
  simp
theorem wrap_pk (s : ByteArray) (i : Nat) : IntKind.i64.wrap (pk s i) = pk s i := by
  have := pk_lo s i; have := pk_hi s i; rw [IntKind.wrap_i64]; omega
theorem peek_c (s : ByteArray) (b i : Nat) (a : Int) (k : Nat) (w : World) (h : Sc w b s i) (ha : 0 ≤ a ∧ a ≤ 10 ∧ (i : Int) + a = k) :
    Calls Tryz.prog 113 #[.pointer (some ⟨b, 0, none⟩), .int .i64 a] w fun e w' => e = .returned (.int .i64 (pk s k)) ∧ ∃ n, w' = w.drewN n := by
  have h0 := h.c0
  have h1 := h.c1
  have hs := h.len
  have hi := h.le
  clear h
  obtain ⟨n, rfl⟩ := Int.eq_ofNat_of_zero_le ha.1
  obtain rfl : k = i + n := by omega
  have ha' : n ≤ 10 := by omega
  clear ha
  by_cases hlt : i + n < s.size
  · have hix := index_pk s (i + n) hlt
    have hw1 : IntKind.i64.wrap ((i : Int) + (n : Int)) = ((i + n : Nat) : Int) := by rw [IntKind.wrap_i64]; omega
    have hw2 := wrap_pk s (i + n)
    simp only [Int.natCast_add] at hix hw1
    go_enter Tryz.func113, Tryz.ntmps113
    go_wp2
    go_quiet (fail)
    go_wp2
    go_quiet (fail)
    go_wp2
    go_ret
    exact ⟨rfl, _, World.drewN_drewN _ _ _⟩
  · rw [pk_out (by omega)]
    go_enter Tryz.func113, Tryz.ntmps113
    go_wp2
    go_quiet (fail)
    go_wp2
    go_ret
    exact ⟨rfl, _, rfl⟩
theorem escapeBegins_c (s : ByteArray) (b i : Nat) (a : Int) (k : Nat) (w : World) (h : Sc w b s i) (ha : 0 ≤ a ∧ a ≤ 9 ∧ (i : Int) + a = k) :
    Calls Tryz.prog 238 #[.pointer (some ⟨b, 0, none⟩), .int .i64 a] w fun e w' => e = .returned (.bool (escB s k)) ∧ ∃ n, w' = w.drewN n := by
  have g0 := ha.1
  have g1 := ha.2.1
  have HA : Hid ((i : Int) + a = k) := ha.2.2
  clear ha
  cases h92 : (pk s k == 92)
  · have HV : Hid (escB s k = false) := by show escB s k = false; simp [escB, h92]
    go_enter Tryz.func238, Tryz.ntmps238
    go_wp2_with fail
    refine (peek_c s b i _ k _ h ⟨by omega, by omega, by have := HA.out; omega⟩).mono ?_
    rintro e w1 ⟨rfl, n1, rfl⟩
    go_wp2_with fail
    go_ret
    exact ⟨rbool HV.out.symm, _, rfl⟩
  · have HV : Hid (escB s k = (pk s (k + 1) != 10)) := by show escB s k = _; simp [escB, h92]
    go_enter Tryz.func238, Tryz.ntmps238
    go_wp2_with fail
    refine (peek_c s b i _ k _ h ⟨by omega, by omega, by have := HA.out; omega⟩).mono ?_
    rintro e w1 ⟨rfl, n1, rfl⟩
    go_wp2_with fail
    refine (peek_c s b i _ (k + 1) _ (h.drewN _) ⟨by omega, by omega, by have := HA.out; omega⟩).mono ?_
    rintro e w1 ⟨rfl, n2, rfl⟩
    go_wp2_with fail
    go_ret
    exact ⟨rbool HV.out.symm, _, rfl⟩
theorem nameGoesOn_c (s : ByteArray) (b i : Nat) (a : Int) (k : Nat) (w : World) (h : Sc w b s i) (ha : 0 ≤ a ∧ a ≤ 9 ∧ (i : Int) + a = k) :
    Calls Tryz.prog 179 #[.pointer (some ⟨b, 0, none⟩), .int .i64 a] w fun e w' => e = .returned (.bool (goesB s k)) ∧ ∃ n, w' = w.drewN n := by
  have g0 := ha.1
  have g1 := ha.2.1
  have HA : Hid ((i : Int) + a = k) := ha.2.2
  clear ha
  cases hn : nameI (pk s k)
  · have HV : Hid (goesB s k = escB s k) := by show goesB s k = _; simp [goesB, hn]
    go_enter Tryz.func179, Tryz.ntmps179
    go_wp2_with fail
    refine (peek_c s b i _ k _ h ⟨by omega, by omega, by have := HA.out; omega⟩).mono ?_
    rintro e w1 ⟨rfl, n1, rfl⟩
    go_wp2_with fail
    refine (isNameByte_c _ _).mono ?_
    rintro e w1 ⟨rfl, rfl⟩
    go_wp2_with fail
    refine (escapeBegins_c s b i _ k _ (h.drewN _) ⟨by omega, by omega, by have := HA.out; omega⟩).mono ?_
    rintro e w1 ⟨rfl, n2, rfl⟩
    go_wp2_with fail
    go_ret
    exact ⟨rbool (by rw [HV.out]), _, rfl⟩
  · have HV : Hid (goesB s k = true) := by show goesB s k = _; simp [goesB, hn]
    go_enter Tryz.func179, Tryz.ntmps179
    go_wp2_with fail
    refine (peek_c s b i _ k _ h ⟨by omega, by omega, by have := HA.out; omega⟩).mono ?_
    rintro e w1 ⟨rfl, n1, rfl⟩
    go_wp2_with fail
    refine (isNameByte_c _ _).mono ?_
    rintro e w1 ⟨rfl, rfl⟩
    go_wp2_with fail
    go_ret
    exact ⟨rbool HV.out.symm, _, rfl⟩
theorem nameBegins_c (s : ByteArray) (b i : Nat) (a : Int) (k : Nat) (w : World) (h : Sc w b s i) (ha : 0 ≤ a ∧ a ≤ 8 ∧ (i : Int) + a = k) :
    Calls Tryz.prog 183 #[.pointer (some ⟨b, 0, none⟩), .int .i64 a] w fun e w' => e = .returned (.bool (begB s k)) ∧ ∃ n, w' = w.drewN n := by
  have g0 := ha.1
  have g1 := ha.2.1
  have HA : Hid ((i : Int) + a = k) := ha.2.2
  clear ha
  cases h45 : (pk s k == 45)
  · have n45 : ¬ pk s k = 45 := by simpa using h45
    cases hl : lettI (pk s k)
    · have HV : Hid (begB s k = escB s k) := by show begB s k = _; simp [begB, n45, hl]
      clear n45
      go_enter Tryz.func183, Tryz.ntmps183
      go_wp2_with fail
      refine (peek_c s b i _ k _ h ⟨by omega, by omega, by have := HA.out; omega⟩).mono ?_
      rintro e w1 ⟨rfl, n1, rfl⟩
      go_wp2_with fail
      refine (peek_c s b i _ k _ (h.drewN _) ⟨by omega, by omega, by have := HA.out; omega⟩).mono ?_
      rintro e w1 ⟨rfl, n2, rfl⟩
      go_wp2_with fail
      refine (isLetter_c _ _).mono ?_
      rintro e w1 ⟨rfl, rfl⟩
      go_wp2_with fail
      refine (escapeBegins_c s b i _ k _ (h.drewN _) ⟨by omega, by omega, by have := HA.out; omega⟩).mono ?_
      rintro e w1 ⟨rfl, n3, rfl⟩
      go_wp2_with fail
      go_ret
      exact ⟨rbool (by rw [HV.out]), _, rfl⟩
    · have HV : Hid (begB s k = true) := by show begB s k = _; simp [begB, n45, hl]
      clear n45
      go_enter Tryz.func183, Tryz.ntmps183
      go_wp2_with fail
      refine (peek_c s b i _ k _ h ⟨by omega, by omega, by have := HA.out; omega⟩).mono ?_
      rintro e w1 ⟨rfl, n1, rfl⟩
      go_wp2_with fail
      refine (peek_c s b i _ k _ (h.drewN _) ⟨by omega, by omega, by have := HA.out; omega⟩).mono ?_
      rintro e w1 ⟨rfl, n2, rfl⟩
      go_wp2_with fail
      refine (isLetter_c _ _).mono ?_
      rintro e w1 ⟨rfl, rfl⟩
      go_wp2_with fail
      go_ret
      exact ⟨rbool HV.out.symm, _, rfl⟩
  · have n45 : pk s k = 45 := by simpa using h45
    cases hl : lettI (pk s (k + 1))
    · cases hd : (pk s (k + 1) == 45)
      · have HV : Hid (begB s k = escB s (k + 1)) := by show begB s k = _; simp [begB, n45, hl, hd]
        clear n45
        go_enter Tryz.func183, Tryz.ntmps183
        go_wp2_with fail
        refine (peek_c s b i _ k _ h ⟨by omega, by omega, by have := HA.out; omega⟩).mono ?_
        rintro e w1 ⟨rfl, n1, rfl⟩
        go_wp2_with fail
        refine (peek_c s b i _ (k + 1) _ (h.drewN _) ⟨by omega, by omega, by have := HA.out; omega⟩).mono ?_
        rintro e w1 ⟨rfl, n2, rfl⟩
        go_wp2_with fail
        refine (isLetter_c _ _).mono ?_
        rintro e w1 ⟨rfl, rfl⟩
        go_wp2_with fail
        refine (escapeBegins_c s b i _ (k + 1) _ (h.drewN _) ⟨by omega, by omega, by have := HA.out; omega⟩).mono ?_
        rintro e w1 ⟨rfl, n3, rfl⟩
        go_wp2_with fail
        go_ret
        exact ⟨rbool (by rw [HV.out]), _, rfl⟩
      · have HV : Hid (begB s k = true) := by show begB s k = _; simp [begB, n45, hl, hd]
        clear n45
        go_enter Tryz.func183, Tryz.ntmps183
        go_wp2_with fail
        refine (peek_c s b i _ k _ h ⟨by omega, by omega, by have := HA.out; omega⟩).mono ?_
        rintro e w1 ⟨rfl, n1, rfl⟩
        go_wp2_with fail
        refine (peek_c s b i _ (k + 1) _ (h.drewN _) ⟨by omega, by omega, by have := HA.out; omega⟩).mono ?_
        rintro e w1 ⟨rfl, n2, rfl⟩
        go_wp2_with fail
        refine (isLetter_c _ _).mono ?_
        rintro e w1 ⟨rfl, rfl⟩
        go_wp2_with fail
        go_ret
        exact ⟨rbool HV.out.symm, _, rfl⟩
    · have HV : Hid (begB s k = true) := by show begB s k = _; simp [begB, n45, hl]
      clear n45
      go_enter Tryz.func183, Tryz.ntmps183
      go_wp2_with fail
      refine (peek_c s b i _ k _ h ⟨by omega, by omega, by have := HA.out; omega⟩).mono ?_
      rintro e w1 ⟨rfl, n1, rfl⟩
      go_wp2_with fail
      refine (peek_c s b i _ (k + 1) _ (h.drewN _) ⟨by omega, by omega, by have := HA.out; omega⟩).mono ?_
      rintro e w1 ⟨rfl, n2, rfl⟩
      go_wp2_with fail
      refine (isLetter_c _ _).mono ?_
      rintro e w1 ⟨rfl, rfl⟩
      go_wp2_with fail
      go_ret
      exact ⟨rbool HV.out.symm, _, rfl⟩
theorem numberBegins_c (s : ByteArray) (b i : Nat) (w : World) (h : Sc w b s i) :
    Calls Tryz.prog 181 #[.pointer (some ⟨b, 0, none⟩)] w fun e w' => e = .returned (.bool (numB s i)) ∧ ∃ n, w' = w.drewN n := by
  cases hsg : signI (pk s i)
  · have hk : sgn s i = i := by simp [sgn, hsg]
    cases h46 : (pk s i == 46)
    · have HV : Hid (numB s i = digI (pk s i)) := by show numB s i = _; simp [numB, hk, h46]
      clear hk
      go_enter Tryz.func181, Tryz.ntmps181
      go_wp2_with fail
      refine (peek_c s b i _ i _ h ⟨by omega, by omega, by omega⟩).mono ?_
      rintro e w1 ⟨rfl, n1, rfl⟩
      go_wp2_with fail
      refine (isSign_c _ _).mono ?_
      rintro e w1 ⟨rfl, rfl⟩
      go_wp2_with fail
      refine (peek_c s b i _ i _ (h.drewN _) ⟨by omega, by omega, by omega⟩).mono ?_
      rintro e w1 ⟨rfl, n2, rfl⟩
      go_wp2_with fail
      refine (peek_c s b i _ i _ (h.drewN _) ⟨by omega, by omega, by omega⟩).mono ?_
      rintro e w1 ⟨rfl, n3, rfl⟩
      go_wp2_with fail
      refine (isDigit_c _ _).mono ?_
      rintro e w1 ⟨rfl, rfl⟩
      go_wp2_with fail
      go_ret
      exact ⟨rbool HV.out.symm, _, rfl⟩
    · have HV : Hid (numB s i = digI (pk s (i + 1))) := by
        have e : pk s i = 46 := by simpa using h46
        show numB s i = _; rw [numB, hk, e]; simp [digI]
      clear hk
      go_enter Tryz.func181, Tryz.ntmps181
      go_wp2_with fail
      refine (peek_c s b i _ i _ h ⟨by omega, by omega, by omega⟩).mono ?_
      rintro e w1 ⟨rfl, n1, rfl⟩
      go_wp2_with fail
      refine (isSign_c _ _).mono ?_
      rintro e w1 ⟨rfl, rfl⟩
      go_wp2_with fail
      refine (peek_c s b i _ i _ (h.drewN _) ⟨by omega, by omega, by omega⟩).mono ?_
      rintro e w1 ⟨rfl, n2, rfl⟩
      go_wp2_with fail
      refine (peek_c s b i _ (i + 1) _ (h.drewN _) ⟨by omega, by omega, by omega⟩).mono ?_
      rintro e w1 ⟨rfl, n3, rfl⟩
      go_wp2_with fail
      refine (isDigit_c _ _).mono ?_
      rintro e w1 ⟨rfl, rfl⟩
      go_wp2_with fail
      go_ret
      exact ⟨rbool HV.out.symm, _, rfl⟩
  · have hk : sgn s i = i + 1 := by simp [sgn, hsg]
    cases h46 : (pk s (i + 1) == 46)
    · have HV : Hid (numB s i = digI (pk s (i + 1))) := by show numB s i = _; simp [numB, hk, h46]
      clear hk
      go_enter Tryz.func181, Tryz.ntmps181
      go_wp2_with fail
      refine (peek_c s b i _ i _ h ⟨by omega, by omega, by omega⟩).mono ?_
      rintro e w1 ⟨rfl, n1, rfl⟩
      go_wp2_with fail
      refine (isSign_c _ _).mono ?_
      rintro e w1 ⟨rfl, rfl⟩
      go_wp2_with fail
      refine (peek_c s b i _ (i + 1) _ (h.drewN _) ⟨by omega, by omega, by omega⟩).mono ?_
      rintro e w1 ⟨rfl, n2, rfl⟩
      go_wp2_with fail
      refine (peek_c s b i _ (i + 1) _ (h.drewN _) ⟨by omega, by omega, by omega⟩).mono ?_
      rintro e w1 ⟨rfl, n3, rfl⟩
      go_wp2_with fail
      refine (isDigit_c _ _).mono ?_
      rintro e w1 ⟨rfl, rfl⟩
      go_wp2_with fail
      go_ret
      exact ⟨rbool HV.out.symm, _, rfl⟩
    · have HV : Hid (numB s i = digI (pk s (i + 2))) := by
        have e : pk s (i + 1) = 46 := by simpa using h46
        show numB s i = _; rw [numB, hk, e]; simp [digI]
      clear hk
      go_enter Tryz.func181, Tryz.ntmps181
      go_wp2_with fail
      refine (peek_c s b i _ i _ h ⟨by omega, by omega, by omega⟩).mono ?_
      rintro e w1 ⟨rfl, n1, rfl⟩
      go_wp2_with fail
      refine (isSign_c _ _).mono ?_
      rintro e w1 ⟨rfl, rfl⟩
      go_wp2_with fail
      refine (peek_c s b i _ (i + 1) _ (h.drewN _) ⟨by omega, by omega, by omega⟩).mono ?_
      rintro e w1 ⟨rfl, n2, rfl⟩
      go_wp2_with fail
      refine (peek_c s b i _ (i + 2) _ (h.drewN _) ⟨by omega, by omega, by omega⟩).mono ?_
      rintro e w1 ⟨rfl, n3, rfl⟩
      go_wp2_with fail
      refine (isDigit_c _ _).mono ?_
      rintro e w1 ⟨rfl, rfl⟩
      go_wp2_with fail
      go_ret
      exact ⟨rbool HV.out.symm, _, rfl⟩
theorem tkA {P : Program} {ops : Array Oper} {Q : Exit → Act → World → Prop} {md : Region.Mode} (i : Nat) {oi : Oper} {v : Value} {fuel : Nat} {listed : Array Bool} {a a' : Act} {w : World}
    (h : wpAny P md ops Q fuel (listed.setIfInBounds i true) a' w) (hi : ops[i]? = some oi := by rfl) (hs : Region.noSelect ops = true := by kernel_rfl) (hf : Region.free md ops listed i = true := by kernel_rfl) (hr : (Region.ready md ops listed).contains i = true := by kernel_rfl)
    (hw : Region.wanted oi (yielded ops a.tmps) = true := by kernel_rfl) (hy : ∀ w, (execOp a.eval oi).run P w = .ok (.value v) w := by intro w; go_simp; all_goals with_reducible rfl)
    (hQ : ∀ c a w, Q (.panic c) (a.put oi.dst v) w → Q (.panic c) a w := by exact fun _ _ _ h => h)
    (ha : a.put oi.dst v = a' := by (try simp only [List.getElem_toArray]); (try simp only [List.getElem_cons_succ]); (try simp only [List.getElem_cons_zero]); (try simp only [Act.put]); (try simp only [List.setIfInBounds_toArray]); (try simp only [List.set_cons_succ]); (try simp only [List.set_cons_zero]); all_goals with_reducible rfl) : wpAny P md ops Q (fuel + 1) listed a w := by
  subst ha
  exact wpAny_take hi hs hf hr hQ (Or.inl ⟨hw, hy⟩) h
theorem tkH {P : Program} {ops : Array Oper} {Q : Exit → Act → World → Prop} {md : Region.Mode} {S : World → Prop} (i : Nat) {oi : Oper} {v : Value} {fuel : Nat} {listed : Array Bool} {a a' : Act} {w : World}
    (hi : ops[i]? = some oi) (hS : S w) (hy : ∀ w, S w → (execOp a.eval oi).run P w = .ok (.value v) w) (h : wpAnyH P md ops Q S fuel (listed.setIfInBounds i true) a' w) (hs : Region.noSelect ops = true := by kernel_rfl) (hf : Region.free md ops listed i = true := by kernel_rfl) (hr : (Region.ready md ops listed).contains i = true := by kernel_rfl)
    (hw : Region.wanted oi (yielded ops a.tmps) = true := by kernel_rfl)
    (hQ : ∀ c a w, Q (.panic c) (a.put oi.dst v) w → Q (.panic c) a w := by exact fun _ _ _ h => h)
    (ha : a.put oi.dst v = a' := by (try simp only [List.getElem_toArray]); (try simp only [List.getElem_cons_succ]); (try simp only [List.getElem_cons_zero]); (try simp only [Act.put]); (try simp only [List.setIfInBounds_toArray]); (try simp only [List.set_cons_succ]); (try simp only [List.set_cons_zero]); all_goals with_reducible rfl) : wpAnyH P md ops Q S (fuel + 1) listed a w := by
  subst ha
  exact wpAnyH_take hi hs hf hr hQ (Or.inl ⟨hw, hy⟩) hS h
theorem tkI {P : Program} {ops : Array Oper} {Q : Exit → Act → World → Prop} {md : Region.Mode} {S : World → Prop} (i : Nat) {oi : Oper} {v : Value} {fuel : Nat} {listed : Array Bool} {a a' : Act} {w : World}
    (hi : ops[i]? = some oi) (hS : S w) (hy : ∀ w, S w → (execOp a.eval oi).run P w = .ok (.value v) w) (h : wpAnyH P md ops Q S fuel (listed.setIfInBounds i true) a' w) (hs : Region.noSelect ops = true := by kernel_rfl) (hf : Region.free md ops listed i = true := by kernel_rfl) (hr : (Region.ready md ops listed).contains i = true := by kernel_rfl)
    (hw : Region.wanted oi (yielded ops a.tmps) = true := by kernel_rfl)
    (hQ : ∀ c a w, Q (.panic c) (a.put oi.dst v) w → Q (.panic c) a w := by exact fun _ _ _ h => h)
    (ha : a.put oi.dst v = a' := by (try simp only [Act.put, List.setIfInBounds_toArray, List.set_cons_zero, List.set_cons_succ]); all_goals with_reducible rfl) : wpAnyH P md ops Q S (fuel + 1) listed a w := by
  subst ha
  exact wpAnyH_take hi hs hf hr hQ (Or.inl ⟨hw, hy⟩) hS h
theorem brA {P : Program} {ops : Array Oper} {Q : Exit → Act → World → Prop} {md : Region.Mode} (i : Nat) {o : Oper} {fuel : Nat} {listed : Array Bool} {a : Act} {w : World}
    (h : ∀ K' : Act → World → Prop, (∀ a w, wpAny P md ops Q fuel (listed.setIfInBounds i true) a w → K' a w) → if Region.wanted o (yielded ops a.tmps) = true then Oper.wp P o a w K' Q else K' (a.put o.dst undef) w)
    (ho : ops[i]? = some o := by rfl) (hr : Region.ready md ops listed = [i] := by kernel_rfl) : wpAny P md ops Q (fuel + 1) listed a w :=
  wpAny_ready hr (by simp) (AllReady.cons ho h AllReady.nil)
theorem brH {P : Program} {ops : Array Oper} {Q : Exit → Act → World → Prop} {md : Region.Mode} {S : World → Prop} (i : Nat) {o : Oper} {fuel : Nat} {listed : Array Bool} {a : Act} {w : World}
    (h : ∀ K' : Act → World → Prop, Shut (∀ a w, S w → (S w → wpAnyH P md ops Q S fuel (listed.setIfInBounds i true) a w) → K' a w) → if Region.wanted o (yielded ops a.tmps) = true then Oper.wp P o a w K' Q else K' (a.put o.dst undef) w)
    (ho : ops[i]? = some o := by rfl) (hr : Region.ready md ops listed = [i] := by kernel_rfl) : wpAnyH P md ops Q S (fuel + 1) listed a w :=
  wpAnyH_ready hr (by simp) (AllReadyH.cons ho h AllReadyH.nil)
theorem pmr {P : Program} {f : FuncId} {args : Array Value} {w w2 : World} {v : Value} {Q : Ending → World → Prop} (h : Calls P f args w fun e w' => e = .returned v ∧ w' = w2) (k : Q (.returned v) w2) : Calls P f args w Q :=
  h.mono fun _ _ ⟨he, hw⟩ => by rw [he, hw]; exact k
theorem pmn {α : Type} {P : Program} {f : FuncId} {args : Array Value} {w : World} {w2 : α → World} {v : Value} {Q : Ending → World → Prop} (h : Calls P f args w fun e w' => e = .returned v ∧ ∃ n, w' = w2 n) (k : ∀ n, Q (.returned v) (w2 n)) : Calls P f args w Q :=
  h.mono fun _ _ ⟨he, n, hw⟩ => by rw [he, hw]; exact k n
theorem pmb {P : Program} {f : FuncId} {args : Array Value} {w : World} {R : World → Prop} {v : Value} {Q : Ending → World → Prop} (h : Calls P f args w fun e w' => e = .returned v ∧ R w') (k : ∀ w', R w' → Q (.returned v) w') : Calls P f args w Q :=
  h.mono fun _ w' ⟨he, hw⟩ => by rw [he]; exact k w' hw
theorem gs {p : Prop} (h : p := by go_simp; all_goals with_reducible rfl) : p := h
theorem oa {p : Prop} (h : p := by first | omega | (simp only [ByteArray.size_append]; omega)) : p := h
theorem oo {p : Prop} (h : p := by omega) : p := h
theorem nl {n : Nat} : n ≤ n := Nat.le_refl n
theorem _root_.Go.RowKit.Hid.o {p : Prop} (h : Hid p) : p := h
theorem _root_.Go.Aside.o {p : Prop} (h : Aside p) : p := h
theorem _root_.Go.Shut.o {p : Prop} (h : Shut p) : p := h
end
end Go.Proofs.YtlliliddljkbfaaGreat
