import Derived.Test.YtlliliddljkbfaaGreatC3
import Derived.Test.YtlliliddljkbfaaGreatC30
import Derived.Test.YtlliliddljkbfaaGreatC44
import Derived.Test.YtlliliddljkbfaaGreatC49
import Derived.BigRegion
import Derived.RegionTactic
namespace Go.Proofs.YtlliliddljkbfaaGreat
set_option maxHeartbeats 64000000
set_option maxRecDepth 100000
open Go.RowKit Sp
def cut600 (s : ByteArray) : ByteArray := s.extract 0 (min s.size 600)
theorem cut600_size (s : ByteArray) : (cut600 s).size ≤ 600 := by
  unfold cut600; rw [ByteArray.size_extract]; omega
theorem short_c (s : ByteArray) (w : World) (hs : s.size ≤ 9223372036854775807) :
    Calls Tryz.prog 19 #[.string s, .int .i64 600] w fun e w' => e = .returned (.string (cut600 s)) ∧ w' = w := by
  have e : (min (s.size : Int) 600).toNat = min s.size 600 := by omega
  have HE := hid e
  clear e
  go_enter Tryz.func19, Tryz.ntmps19
  go_wp2_with fail
  go_ret
  rw [HE.out]
  exact ⟨rfl, rfl⟩
def notIn (s t : ByteArray) : Prop := ∀ i, i + t.size ≤ s.size → s.extract i (i + t.size) ≠ t
theorem hasT_c (s t : ByteArray) (w : World) (hs : s.size ≤ 1099511627776) (ht : t.size ≤ 100) (h : notIn s t) :
    Calls Tryz.prog 20 #[.string s, .string t] w fun e w' => e = .returned (.bool false) ∧ w' = w := by
  have HN : Hid (notIn s t) := h
  clear h
  go_enter Tryz.func20, Tryz.ntmps20
  go_wp2_with fail
  go_loopg [5] (s.size + 1) (fun gg v5 wr => ∃ k : Nat, k + gg = s.size + 1 ∧ v5 = .int .i64 (k : Int) ∧ Aside (wr = w))
  case atStart => exact ⟨0, by omega, rfl, rfl⟩
  case round =>
    obtain ⟨k, hk, rfl, hA⟩ := hrel
    obtain rfl := hA.out
    clear hA
    by_cases hlt : k + t.size ≤ s.size
    · have hne : ((s.extract k (k + t.size)).toList == t.toList) = false := by rw [bytes_beq]; exact decide_eq_false (HN.out k hlt)
      go_wp2_with fail
      go_roundg (gk - 1)
      case measure => omega
      case rel => exact ⟨k + 1, by omega, by congr 1, rfl⟩
    · go_wp2_with fail
      go_ret
      exact ⟨rfl, rfl⟩
theorem within_c (zs : List ByteArray) (v : Value) (x : ByteArray) (S : Nat → Prop) (w : World) (h : SG CStr 1 S w v zs) :
    Calls Tryz.prog 43 #[v, .string x] w fun e w' => e = .returned (.bool (zs.contains x)) ∧ w' = w := by
  have hl := h.len
  have HS : Hid (SG CStr 1 S w v zs) := h
  obtain ⟨a, cap, rfl⟩ := h.form
  clear h
  rw [contains_any]
  go_enter Tryz.func43, Tryz.ntmps43
  go_wp2_with fail
  go_loopg [5] zs.length (fun gg v5 wr => ∃ k : Nat, k + gg = zs.length ∧ v5 = .int .i64 (k : Int) ∧ Aside (zs.any (fun z => decide (x = z)) = (zs.drop k).any (fun z => decide (x = z)) ∧ wr = w))
  case atStart => exact ⟨0, by omega, rfl, by simp, rfl⟩
  case round =>
    obtain ⟨k, hk, rfl, hA⟩ := hrel
    have HA : Hid (zs.any (fun z => decide (x = z)) = (zs.drop k).any (fun z => decide (x = z))) := hA.out.1
    obtain rfl := hA.out.2
    clear hA
    by_cases hlt : k < zs.length
    · have h1 : (k : Int) < (zs.length : Int) := by omega
      obtain ⟨g', o, rfl, hL, hcap⟩ := HS.out.here (by rintro rfl; simp at hlt)
      obtain ⟨_, c0, hxs⟩ := hL.str (i := k) hlt
      have HA2 : Hid (zs.any (fun z => decide (x = z)) = (decide (x = zs[k]) || (zs.drop (k + 1)).any (fun z => decide (x = z)))) := by show _ = _; rw [HA.out, List.drop_eq_getElem_cons hlt]; rfl
      generalize zs[k] = y at *
      clear hL
      by_cases hxy : x = y
      · have hb : (y.toList == x.toList) = true := by rw [bytes_beq]; exact decide_eq_true hxy.symm
        have HV : Hid (zs.any (fun z => decide (x = z)) = true) := by show _ = _; rw [HA2.out, decide_eq_true hxy]; rfl
        clear hxy
        go_wp2_with fail
        go_ret
        rw [HV.out]
        exact ⟨rfl, rfl⟩
      · have hb : (y.toList == x.toList) = false := by rw [bytes_beq]; exact decide_eq_false (fun e => hxy e.symm)
        have HV : Hid (zs.any (fun z => decide (x = z)) = (zs.drop (k + 1)).any (fun z => decide (x = z))) := by show _ = _; rw [HA2.out, decide_eq_false hxy]; rfl
        clear hxy
        go_wp2_with fail
        go_roundg (gk - 1)
        case measure => omega
        case rel => exact ⟨k + 1, by omega, by congr 1, HV.out, rfl⟩
    · have h1 : (zs.length : Int) ≤ (k : Int) := by omega
      have HV : Hid (zs.any (fun z => decide (x = z)) = false) := by show _ = _; rw [HA.out, List.drop_of_length_le (by omega)]; rfl
      go_wp2_with fail
      go_ret
      rw [HV.out]
      exact ⟨rfl, rfl⟩
theorem lower_k (s : ByteArray) (w : World) (hs : s.size ≤ 4000000) :
    Calls Tryz.prog 44 #[.string s] w fun e w' => e = .returned (.string (small s)) ∧ Below w.heap.size w w' := by
  obtain ⟨w1, cap, hrun, hbs, hsz⟩ := bytes_of s w
  have HB : Hid (Bytes w1 w.heap.size s 0) := hbs.1
  have HW : Hid (Below w.heap.size w w1) := hbs.2
  clear hbs
  go_enter Tryz.func44, Tryz.ntmps44
  go_wp2_with fail
  go_loopg [4] s.size (fun g v10 wr => ∃ k : Nat, k + g = s.size ∧ v10 = .int .i64 (k : Int) ∧ Aside (Bytes wr w.heap.size s k ∧ Below w.heap.size w wr))
  case atStart => exact ⟨0, by omega, rfl, HB.out, HW.out⟩
  case round =>
    obtain ⟨k, hk, rfl, hA⟩ := hrel
    have H1 : Hid (Bytes wr w.heap.size s k) := hA.out.1
    have H2 : Hid (Below w.heap.size w wr) := hA.out.2
    clear hA
    by_cases hlt : k < s.size
    · have hc : wr.cell? ⟨w.heap.size, k, none⟩ = some (.int .u8 (s[k].toNat : Int)) := by rw [H1.out.1 k hlt, if_neg (by omega)]
      have hf := H1.out.2.1 k hlt
      have hl := H1.out.2.2
      have hb : s[k].toNat < 256 := s[k].toNat_lt
      have HS : Hid ((smallB s[k]).toNat = if 65 ≤ s[k].toNat ∧ s[k].toNat ≤ 90 then s[k].toNat + 32 else s[k].toNat) := small_nat _
      have HK : Hid (Bytes (wr.setCell ⟨w.heap.size, k, none⟩ (.int .u8 ((smallB s[k]).toNat : Int))) w.heap.size s (k + 1)) := H1.out.step hlt
      have HN : Hid (smallB s[k] = s[k] → Bytes wr w.heap.size s (k + 1)) := H1.out.stay hlt
      have HE : Hid ((smallB s[k]).toNat = s[k].toNat → smallB s[k] = s[k]) := fun h => UInt8.toNat_inj.1 h
      generalize hn : s[k].toNat = n at *
      clear hn
      by_cases h65 : 65 ≤ n
      · by_cases h90 : n ≤ 90
        · have h65' : (65 : Int) ≤ (n : Int) := by omega
          have h90' : (n : Int) ≤ 90 := by omega
          go_wp2_with fail
          go_roundg (gk - 1)
          case measure => omega
          case rel =>
            refine ⟨k + 1, by omega, by congr 1, ?_, H2.out.setCell (Nat.le_refl _) _⟩
            have e := HS.out
            rw [if_pos ⟨h65, h90⟩] at e
            have := HK.out
            rw [e] at this
            first
            | exact this
            | (have e2 : ((n + 32 : Nat) : Int) = (n : Int) - 65 + 97 := (by omega); rw [e2] at this; exact this)
        · have h90' : (90 : Int) < (n : Int) := by omega
          have h65' : (65 : Int) ≤ (n : Int) := by omega
          go_wp2_with fail
          go_roundg (gk - 1)
          case measure => omega
          case rel => exact ⟨k + 1, by omega, by congr 1, HN.out (HE.out (by rw [HS.out, if_neg (by omega)])), H2.out⟩
      · have h65' : (n : Int) < 65 := by omega
        go_wp2_with fail
        go_roundg (gk - 1)
        case measure => omega
        case rel => exact ⟨k + 1, by omega, by congr 1, HN.out (HE.out (by rw [HS.out, if_neg (by omega)])), H2.out⟩
    · have hcv := H1.out.conv (cap := cap) (by omega)
      go_wp2_with fail
      go_ret
      exact ⟨rfl, H2.out⟩
theorem cells_at {w : World} {b : Nat} {cs : Array Value} {T : TypeId} (h : w.heap[b]? = some (.cells cs T (0, 0))) (i : Nat) : w.cell? ⟨b, i, none⟩ = cs[i]? := by
  unfold World.cell?; rw [h]; simp
theorem lg_strs {S : Nat → Prop} {w : World} {b : Nat} (hS : S b) : ∀ (l : List ByteArray) (o : Nat), (∀ i (h : i < l.length), w.cell? ⟨b, o + i, none⟩ = some (.string l[i])) → (∀ s ∈ l, s.size ≤ 4194304) → LG CStr 1 S w l b o
  | [], _, _, _ => by simp [LG]
  | s :: r, o, h, hz => by
    refine ⟨⟨hS, [.string s], ⟨rfl, hz s List.mem_cons_self⟩, fun j u hu => ?_⟩, lg_strs hS r (o + 1) (fun i hi => ?_) (fun x hx => hz x (List.mem_cons_of_mem _ hx))⟩
    · match j, hu with
      | 0, hu => cases hu; exact h 0 (by simp)
    · have := h (i + 1) (by simpa using hi)
      rw [show o + 1 + i = o + (i + 1) by omega]
      exact this
theorem sg_strs {S : Nat → Prop} {w : World} {b : Nat} {l : List ByteArray} {n cap : Nat} (hn : n = l.length) (hS : S b) (hc : l.length ≤ cap) (h6 : l.length ≤ 2097152) (h : ∀ i (h : i < l.length), w.cell? ⟨b, 0 + i, none⟩ = some (.string l[i])) (hz : ∀ s ∈ l, s.size ≤ 4194304) : SG CStr 1 S w (.slice (some ⟨b, 0, none⟩) n cap) l := by
  subst hn
  exact ⟨_, cap, rfl, ⟨hc, h6⟩, fun _ => ⟨b, 0, rfl, lg_strs hS l 0 h hz⟩⟩
theorem own_next {w w' : World} {base : Nat} {e : TypeId} {size : Nat} {v : Value} {n : Nat} {xs : List Value} (h : w.ownsRow base e size v n xs) (hb : Below w.heap.size w w') : w'.ownsRow base e size v n xs := by
  refine ⟨h.1, ?_⟩
  rcases h.2 with hn | ⟨g, cap, cur, rfl, hbg, hgg, rest⟩
  · exact .inl hn
  · refine .inr ⟨g, cap, cur, rfl, hbg, ?_, rest⟩
    rw [hb.block g (Array.getElem?_eq_some_iff.1 hgg).1]
    exact hgg
theorem row_own {w : World} {base b : Nat} {T : TypeId} {n : Nat} (l : List ByteArray) (hn : n = l.length) (h : w.heap[b]? = some (.cells (l.map Value.string).toArray T (0, 0))) (hb : base ≤ b) (hl : n ≤ 100) : w.ownsRow base T 1 (.slice (some ⟨b, 0, none⟩) n n) n (l.map Value.string) := by
  subst hn
  exact ⟨by simp, .inr ⟨b, _, _, rfl, hb, h, Nat.le_refl _, by unfold maxLen; omega, by simp, by simp [List.take_of_length_le]⟩⟩
theorem own_sgS {w : World} {base n : Nat} {T : TypeId} {v : Value} {l : List ByteArray} (h : w.ownsRow base T 1 v n (l.map Value.string)) (hn : n = l.length) (h1 : 1 ≤ n) (hl : n ≤ 100) (hz : ∀ s ∈ l, s.size ≤ 4194304) : SG CStr 1 (fun b => b < w.heap.size) w v l := by
  subst hn
  have hc := fun g => h.cells (g := g)
  have hlt := h.lt
  rcases h.2 with ⟨rfl, hn⟩ | ⟨g, cap, cur, rfl, hbg, hg, hnc, hrest⟩
  · omega
  · exact sg_strs rfl (hlt g rfl).2 hnc (by omega) (fun i hi => by
      have := hc g rfl i (.string l[i]) (by rw [List.getElem?_map, List.getElem?_eq_getElem hi]; rfl)
      rwa [Addr.add_lit] at this) hz
theorem cell_next {w w' : World} {a : Addr} {v : Value} (h : w.cell? a = some v) (hb : Below w.heap.size w w') : w'.cell? a = some v :=
  (World.cell?_of_block (hb.block _ (World.block_lt_of_cell? w a h))).trans h
theorem one_of {w w1 : World} {o0 : Obj} (h : w.alloc o0 = w1) : w1.heap[w.heap.size]? = some o0 ∧ Below w.heap.size w w1 := by
  subst h
  exact ⟨heap_alloc_new w _, (Below.refl _ _).alloc (Nat.le_refl _) _⟩
theorem three_of {w w1 : World} {o0 o1 o2 : Obj} (h : ((w.alloc o0).alloc o1).alloc o2 = w1) : w1.heap[w.heap.size]? = some o0 ∧ w1.heap[w.heap.size + 1]? = some o1 ∧ w1.heap[w.heap.size + 1 + 1]? = some o2 ∧ Below w.heap.size w w1 := by
  subst h
  refine ⟨?_, ?_, ?_, (((Below.refl _ _).alloc (Nat.le_refl _) _).alloc (by simp) _).alloc (by simp; omega) _⟩
  · rw [Below.heap_alloc _ _ _ (by simp; omega), Below.heap_alloc _ _ _ (by simp)]; exact heap_alloc_new w _
  · rw [Below.heap_alloc _ _ _ (by simp)]
    have := heap_alloc_new (w.alloc o0) o1
    simpa using this
  · have := heap_alloc_new ((w.alloc o0).alloc o1) o2
    simpa using this
theorem four_of {w w1 : World} {o0 o1 o2 o3 : Obj} (h : (((w.alloc o0).alloc o1).alloc o2).alloc o3 = w1) : w1.heap[w.heap.size]? = some o0 ∧ w1.heap[w.heap.size + 1]? = some o1 ∧ w1.heap[w.heap.size + 1 + 1]? = some o2 ∧ w1.heap[w.heap.size + 1 + 1 + 1]? = some o3 ∧ Below w.heap.size w w1 := by
  subst h
  refine ⟨?_, ?_, ?_, ?_, ((((Below.refl _ _).alloc (Nat.le_refl _) _).alloc (by simp) _).alloc (by simp; omega) _).alloc (by simp; omega) _⟩
  · rw [Below.heap_alloc _ _ _ (by simp; omega), Below.heap_alloc _ _ _ (by simp; omega), Below.heap_alloc _ _ _ (by simp)]; exact heap_alloc_new w _
  · rw [Below.heap_alloc _ _ _ (by simp), Below.heap_alloc _ _ _ (by simp)]
    have := heap_alloc_new (w.alloc o0) o1
    simpa using this
  · rw [Below.heap_alloc _ _ _ (by simp)]
    have := heap_alloc_new ((w.alloc o0).alloc o1) o2
    simpa using this
  · have := heap_alloc_new (((w.alloc o0).alloc o1).alloc o2) o3
    simpa using this
def pAw : Policy := ⟨⟨#[114]⟩, [⟨#[99, 111, 108, 111, 114]⟩], [], [], false, false⟩
def sAw : ByteArray := ⟨#[112, 123, 99, 111, 108, 111, 114, 58, 117, 114, 108, 40, 120, 41, 125, 32, 112, 123, 99, 111, 108, 111, 114, 58, 114, 101, 100, 59, 116, 111, 112, 58, 48, 125]⟩
def oAw : ByteArray := ⟨#[46, 114, 32, 112, 123, 99, 111, 108, 111, 114, 58, 114, 101, 100, 125]⟩
theorem awake_a [DecI] : (rinseA sAw pAw).1 = oAw ∧ (rinseA sAw pAw).2 = 0 := ⟨by kernel_rfl, by kernel_rfl⟩
theorem awake_c [DecI] (w : World) (hI : ItoaOK w) (hl : Lit w) :
    Calls Tryz.prog 17 #[] w fun e w' => e = .returned (.bool true) ∧ Below w.heap.size w w' := by
  have HI := hid hI
  have HL := hid hl
  clear hI hl
  go_enter Tryz.func17, Tryz.ntmps17
  go_wp2_with fail
  generalize hw1 : World.alloc _ _ = w1
  obtain ⟨q0, hb⟩ := one_of hw1
  have HB := hid hb
  have R1 : w1.ownsRow w.heap.size 9 1 (.slice (some ⟨w.heap.size, 0, none⟩) 1 1) 1 (pAw.props.map Value.string) := row_own _ rfl q0 (Nat.le_refl _) (by omega)
  have hS := own_sgS R1 rfl (by omega) (by omega) (fun s hs => by rw [List.mem_singleton.1 hs]; decide)
  have PM : PolM w1.heap.size w1 pAw (.slice (some ⟨w.heap.size, 0, none⟩) 1 1) (.slice none 0 0) (.slice none 0 0) := ⟨hS, SG.none_any _ _ _ _ _ _, SG.none_any _ _ _ _ _ _, Nat.le_refl _⟩
  refine (Rinse_c w1.heap.size sAw pAw _ _ _ w1 PM (HI.out.below hb (Nat.le_refl _)) decSzI (HL.out.below hb) (by decide) (by decide)).mono ?_
  rw [awake_a.1, awake_a.2]
  clear hw1 q0 hb R1 hS PM
  rintro e w2 ⟨rfl, hb⟩
  have HB2 : Hid (Below w.heap.size w w2) := HB.out.trans (hb.mono HB.out.size)
  clear hb HB
  unfold oAw
  go_wp2_with fail
  go_ret
  exact ⟨rfl, HB2.out⟩
def pickF (c : Int) (n : Nat) : Nat := (Int.tmod (if c < 0 then -(c + 1) else c) n).toNat
theorem pickF_eq (c : Int) (n : Nat) : Int.tmod (if c < 0 then -(c + 1) else c) n = (pickF c n : Int) := by
  have h : 0 ≤ (if c < 0 then -(c + 1) else c) := by split <;> omega
  unfold pickF
  rw [Int.tmod_eq_emod_of_nonneg h]
  cases n with
  | zero => simp; omega
  | succ n => exact (Int.toNat_of_nonneg (Int.emod_nonneg _ (by omega))).symm
theorem pickF_lt (c : Int) {n : Nat} (hn : 0 < n) : pickF c n < n := by
  have h : 0 ≤ (if c < 0 then -(c + 1) else c) := by split <;> omega
  have := pickF_eq c n
  rw [Int.tmod_eq_emod_of_nonneg h] at this
  have := Int.emod_lt_of_pos (if c < 0 then -(c + 1) else c) (show (0 : Int) < n by omega)
  omega
theorem pick3 (c : Int) (w : World) (h : -9223372036854775808 ≤ c ∧ c ≤ 9223372036854775807) : Calls Tryz.prog 14 #[.int .i64 c, .int .i64 3] w fun e w' => e = .returned (.int .i64 (pickF c 3 : Int)) ∧ w' = w := by
  have hp := pickF_eq c 3
  by_cases h0 : c < 0
  · rw [if_pos h0] at hp
    have hp' : Int.tmod (-(c + 1)) 3 = (pickF c 3 : Int) := hp
    go_enter Tryz.func14, Tryz.ntmps14
    go_wp2_with fail
    go_ret
    exact ⟨rfl, rfl⟩
  · rw [if_neg h0] at hp
    have hp' : Int.tmod c 3 = (pickF c 3 : Int) := hp
    go_enter Tryz.func14, Tryz.ntmps14
    go_wp2_with fail
    go_ret
    exact ⟨rfl, rfl⟩
theorem pick6 (c : Int) (w : World) (h : -9223372036854775808 ≤ c ∧ c ≤ 9223372036854775807) : Calls Tryz.prog 14 #[.int .i64 c, .int .i64 6] w fun e w' => e = .returned (.int .i64 (pickF c 6 : Int)) ∧ w' = w := by
  have hp := pickF_eq c 6
  by_cases h0 : c < 0
  · rw [if_pos h0] at hp
    have hp' : Int.tmod (-(c + 1)) 6 = (pickF c 6 : Int) := hp
    go_enter Tryz.func14, Tryz.ntmps14
    go_wp2_with fail
    go_ret
    exact ⟨rfl, rfl⟩
  · rw [if_neg h0] at hp
    have hp' : Int.tmod c 6 = (pickF c 6 : Int) := hp
    go_enter Tryz.func14, Tryz.ntmps14
    go_wp2_with fail
    go_ret
    exact ⟨rfl, rfl⟩
end Go.Proofs.YtlliliddljkbfaaGreat
