import Derived.Test.YtlliliddljkbfaaGreatC50
import Derived.RegionTactic
namespace Go.Proofs.YtlliliddljkbfaaGreat
set_option maxHeartbeats 64000000
set_option maxRecDepth 100000
open Go.RowKit Sp
def rootO : Nat → ByteArray
  | 0 => ⟨#[114]⟩
  | 1 => ⟨#[115, 97, 110, 100, 98, 111, 120]⟩
  | _ => ⟨#[98, 111, 120]⟩
def prO : List ByteArray := [⟨#[99, 111, 108, 111, 114]⟩, ⟨#[119, 105, 100, 116, 104]⟩, ⟨#[113, 117, 111, 116, 101, 115]⟩, ⟨#[116, 111, 112]⟩, ⟨#[102, 111, 110, 116, 45, 115, 105, 122, 101]⟩, ⟨#[99, 111, 110, 116, 101, 110, 116]⟩]
def fnO : List ByteArray := [⟨#[99, 97, 108, 99]⟩, ⟨#[118, 97, 114]⟩, ⟨#[114, 103, 98]⟩, ⟨#[117, 114, 108]⟩, ⟨#[110, 111, 116]⟩]
def atO : List ByteArray := [⟨#[109, 101, 100, 105, 97]⟩, ⟨#[115, 117, 112, 112, 111, 114, 116, 115]⟩]
def polO (a b c : Int) : Policy := ⟨rootO (pickF a 3), prO.take (1 + pickF b 6), fnO.take (pickF c 6), atO.take (pickF a 3), Int.tmod b 2 == 0, Int.tmod c 2 == 0⟩
theorem root_cells {w : World} {b : Nat} {T : TypeId} (h : w.heap[b]? = some (.cells #[.string ⟨#[114]⟩, .string ⟨#[115, 97, 110, 100, 98, 111, 120]⟩, .string ⟨#[98, 111, 120]⟩] T (0, 0))) : ∀ i, i < 3 → w.cell? ⟨b, i, none⟩ = some (.string (rootO i)) := by
  intro i hi
  rw [cells_at h]
  rcases (show i = 0 ∨ i = 1 ∨ i = 2 by omega) with rfl | rfl | rfl <;> rfl
structure PolW (w : World) (n : Nat) : Prop where
  res : w.heap[n]? = some (.cells #[.string ⟨#[]⟩, .slice none 0 0, .slice none 0 0, .slice none 0 0, .bool false, .bool false] 41 (0, 0))
  props : w.heap[n + 1]? = some (.cells (prO.map Value.string).toArray 9 (0, 0))
  funs : w.heap[n + 1 + 1]? = some (.cells (fnO.map Value.string).toArray 9 (0, 0))
  ats : w.heap[n + 1 + 1 + 1]? = some (.cells (atO.map Value.string).toArray 9 (0, 0))
theorem PolW.next {w w' : World} {n : Nat} (h : PolW w n) (hb : Below w.heap.size w w') : PolW w' n := by
  have lt := (Array.getElem?_eq_some_iff.1 h.ats).1
  exact ⟨by rw [hb.block n (by omega)]; exact h.res, by rw [hb.block (n + 1) (by omega)]; exact h.props, by rw [hb.block (n + 1 + 1) (by omega)]; exact h.funs, by rw [hb.block (n + 1 + 1 + 1) (by omega)]; exact h.ats⟩
theorem PolW.fz {w : World} {n : Nat} (h : PolW w n) (k : Nat) : w.frozen? ⟨n, k, none⟩ = false := by
  unfold World.frozen?; rw [h.res]; simp
theorem setSix {w w' : World} {n : Nat} {x0 x1 x2 x3 x4 x5 : Value} (h : PolW w n) (e : (((((w.setCell ⟨n, 0, none⟩ x0).setCell ⟨n, 1, none⟩ x1).setCell ⟨n, 2, none⟩ x2).setCell ⟨n, 3, none⟩ x3).setCell ⟨n, 4, none⟩ x4).setCell ⟨n, 5, none⟩ x5 = w') :
    (w'.cell? ⟨n, 0, none⟩ = some x0 ∧ w'.cell? ⟨n, 1, none⟩ = some x1 ∧ w'.cell? ⟨n, 2, none⟩ = some x2 ∧ w'.cell? ⟨n, 3, none⟩ = some x3 ∧ w'.cell? ⟨n, 4, none⟩ = some x4 ∧ w'.cell? ⟨n, 5, none⟩ = some x5) ∧ (∀ b, b ≠ n → w'.heap[b]? = w.heap[b]?) ∧ w'.heap.size = w.heap.size ∧ Below n w w' := by
  have o : ∀ (W : World) (i j : Nat) (v : Value), i ≠ j → (W.setCell ⟨n, i, none⟩ v).cell? ⟨n, j, none⟩ = W.cell? ⟨n, j, none⟩ := fun W i j v h => World.cell?_setCell_other _ _ _ _ (fun e => h (congrArg Addr.off e))
  have s : ∀ (W : World) (i : Nat) (v u : Value), W.cell? ⟨n, i, none⟩ = some u → (W.setCell ⟨n, i, none⟩ v).cell? ⟨n, i, none⟩ = some v := fun W i v u h => World.cell?_setCell_same _ _ _ h
  have r0 := (cells_at h.res 0).trans rfl
  have r1 := (cells_at h.res 1).trans rfl
  have r2 := (cells_at h.res 2).trans rfl
  have r3 := (cells_at h.res 3).trans rfl
  have r4 := (cells_at h.res 4).trans rfl
  have r5 := (cells_at h.res 5).trans rfl
  have k : ∀ (W : World) (i b : Nat) (v : Value), b ≠ n → (W.setCell ⟨n, i, none⟩ v).heap[b]? = W.heap[b]? := fun W i b v hb => by
    simp only [World.setCell, Array.getElem?_modify]
    rw [if_neg (Ne.symm hb)]
  have hlt : n ≤ n := Nat.le_refl _
  subst e
  refine ⟨⟨?_, ?_, ?_, ?_, ?_, ?_⟩, fun b hb => ?_, ?_, ?_⟩
  · rw [o _ 5 0 _ (by omega), o _ 4 0 _ (by omega), o _ 3 0 _ (by omega), o _ 2 0 _ (by omega), o _ 1 0 _ (by omega)]; exact s _ _ _ _ r0
  · rw [o _ 5 1 _ (by omega), o _ 4 1 _ (by omega), o _ 3 1 _ (by omega), o _ 2 1 _ (by omega)]; refine s _ _ _ (.slice none 0 0) ?_; rw [o _ 0 1 _ (by omega)]; exact r1
  · rw [o _ 5 2 _ (by omega), o _ 4 2 _ (by omega), o _ 3 2 _ (by omega)]; refine s _ _ _ (.slice none 0 0) ?_; rw [o _ 1 2 _ (by omega), o _ 0 2 _ (by omega)]; exact r2
  · rw [o _ 5 3 _ (by omega), o _ 4 3 _ (by omega)]; refine s _ _ _ (.slice none 0 0) ?_; rw [o _ 2 3 _ (by omega), o _ 1 3 _ (by omega), o _ 0 3 _ (by omega)]; exact r3
  · rw [o _ 5 4 _ (by omega)]; refine s _ _ _ (.bool false) ?_; rw [o _ 3 4 _ (by omega), o _ 2 4 _ (by omega), o _ 1 4 _ (by omega), o _ 0 4 _ (by omega)]; exact r4
  · refine s _ _ _ (.bool false) ?_; rw [o _ 4 5 _ (by omega), o _ 3 5 _ (by omega), o _ 2 5 _ (by omega), o _ 1 5 _ (by omega), o _ 0 5 _ (by omega)]; exact r5
  · rw [k _ 5 b _ hb, k _ 4 b _ hb, k _ 3 b _ hb, k _ 2 b _ hb, k _ 1 b _ hb, k _ 0 b _ hb]
  · simp [World.setCell]
  · exact ((((((Below.refl n w).setCell (p := ⟨n, 0, none⟩) hlt _).setCell (p := ⟨n, 1, none⟩) hlt _).setCell (p := ⟨n, 2, none⟩) hlt _).setCell (p := ⟨n, 3, none⟩) hlt _).setCell (p := ⟨n, 4, none⟩) hlt _).setCell (p := ⟨n, 5, none⟩) hlt _
theorem sg_take {w : World} {b k cap : Nat} {T : TypeId} {l : List ByteArray} (h : w.heap[b]? = some (.cells (l.map Value.string).toArray T (0, 0))) (hk : k ≤ l.length) (hc : l.length = cap) (hl : l.length ≤ 100) (hz : ∀ s ∈ l, s.size ≤ 100) : SG CStr 1 (fun b => b < w.heap.size) w (.slice (some ⟨b, 0, none⟩) k cap) (l.take k) := by
  refine sg_strs (by simp; omega) (Array.getElem?_eq_some_iff.1 h).1 (by simp; omega) (by simp; omega) (fun i hi => ?_) (fun s hs => by have := hz s (List.mem_of_mem_take hs); omega)
  have hi' : i < l.length := by simp at hi; omega
  rw [Nat.zero_add, cells_at h]
  simp [hi']
theorem prO_ok : (∀ s ∈ prO, s.size ≤ 100) ∧ (∀ s ∈ fnO, s.size ≤ 100) ∧ (∀ s ∈ atO, s.size ≤ 100) := by decide
theorem PolW.polM {w1 w5 : World} {n : Nat} {a b c : Int} (h : PolW w1 n) (ho : ∀ q, q ≠ n → w5.heap[q]? = w1.heap[q]?) (la : pickF a 3 < 3) (lb : pickF b 6 < 6) (lc : pickF c 6 < 6) :
    PolM w5.heap.size w5 (polO a b c) (.slice (some ⟨n + 1, 0, none⟩) (1 + pickF b 6) 6) (.slice (some ⟨n + 1 + 1, 0, none⟩) (pickF c 6) 5) (.slice (some ⟨n + 1 + 1 + 1, 0, none⟩) (pickF a 3) 2) :=
  ⟨sg_take (by rw [ho _ (by omega)]; exact h.props) (by show _ ≤ 6; omega) rfl (by decide) prO_ok.1, sg_take (by rw [ho _ (by omega)]; exact h.funs) (by show _ ≤ 5; omega) rfl (by decide) prO_ok.2.1, sg_take (by rw [ho _ (by omega)]; exact h.ats) (by show _ ≤ 2; omega) rfl (by decide) prO_ok.2.2, Nat.le_refl _⟩
theorem policy_c (a b c : Int) (w : World) (ha : -9223372036854775808 ≤ a ∧ a ≤ 9223372036854775807) (hb : -9223372036854775808 ≤ b ∧ b ≤ 9223372036854775807) (hc : -9223372036854775808 ≤ c ∧ c ≤ 9223372036854775807) :
    Calls Tryz.prog 16 #[.int .i64 a, .int .i64 b, .int .i64 c] w fun e w' => ∃ pv fv av, e = .returned (polV (polO a b c) pv fv av) ∧ PolM w'.heap.size w' (polO a b c) pv fv av ∧ Below w.heap.size w w' := by
  have la := pickF_lt a (n := 3) (by omega)
  have lb := pickF_lt b (n := 6) (by omega)
  have lc := pickF_lt c (n := 6) (by omega)
  have la3 : (pickF a 3 : Int) < 3 := by omega
  have lb6 : (pickF b 6 : Int) < 6 := by omega
  have lc6 : (pickF c 6 : Int) < 6 := by omega
  have hwb : IntKind.i64.wrap (1 + (pickF b 6 : Int)) = 1 + (pickF b 6 : Int) := by rw [IntKind.wrap_i64]; omega
  have hkb : (1 + (pickF b 6 : Int)).toNat = 1 + pickF b 6 := by omega
  have hb1 : 0 ≤ 1 + (pickF b 6 : Int) := by omega
  have hb2 : 1 + (pickF b 6 : Int) ≤ 6 := by omega
  have hc2 : (pickF c 6 : Int) ≤ 5 := by omega
  have ha2 : (pickF a 3 : Int) ≤ 2 := by omega
  go_enter Tryz.func16, Tryz.ntmps16
  go_upto_region 4 with fail
  refine wp_region_any (by kernel_rfl) ?_
  change wpAny _ _ _ _ _ _ _ (World.drew _)
  generalize hw0 : World.alloc _ _ = w0
  obtain ⟨b0, b1, b2, b3, bw⟩ := four_of hw0
  clear hw0
  obtain ⟨n, Hn⟩ : ∃ x, Hid (w.heap.size = x) := ⟨_, hid rfl⟩
  rw [Hn.out] at b0 b1 b2 b3
  rw [Hn.out]
  have hPW0 : PolW w0 n := ⟨b0, b1, b2, b3⟩
  obtain ⟨wz, hwz⟩ : ∃ x, World.drew w0 = x := ⟨_, rfl⟩
  have hz : Below w0.heap.size w0 wz := by rw [← hwz]; exact (Below.refl _ _).drew
  rw [hwz]
  have hPW : Hid (PolW wz n) := hPW0.next hz
  have hBW : Hid (Below w.heap.size w wz) := bw.trans (hz.mono bw.size)
  obtain ⟨m, Hm⟩ : ∃ x, Hid (wz.heap.size = x) := ⟨_, hid rfl⟩
  have hnm : Hid (n + 1 + 1 + 1 < m) := by show _ < _; rw [← Hm.out]; exact (Array.getElem?_eq_some_iff.1 hPW.out.ats).1
  clear b0 b1 b2 b3 bw hPW0 hwz hz
  refine tkA 1 ?_
  refine tkA 5 ?_
  refine tkA 6 ?_
  refine tkA 10 ?_
  refine tkA 11 ?_
  refine tkA 14 ?_
  refine tkA 15 ?_
  refine tkA 18 ?_
  refine tkA 19 ?_
  refine tkA 20 ?_
  refine tkA 21 ?_
  refine tkA 22 ?_
  refine tkA 23 ?_
  refine wpAny_ready (rs := [0, 2]) (by kernel_rfl) (by simp) (AllReady.cons rfl (fun K hK => ?_) (AllReady.cons rfl (fun K hK => ?_) AllReady.nil))
  · go_simp
    refine hK _ _ ?_
    clear hK K
    generalize hw1 : World.alloc _ _ = w1
    obtain ⟨q0, hq⟩ := one_of hw1
    rw [Hm.out] at q0
    rw [Hm.out]
    have HS : Hid (∀ i, i < 3 → w1.cell? ⟨m, i, none⟩ = some (.string (rootO i))) := root_cells q0
    have W1 : Hid (PolW w1 n) := hPW.out.next hq
    have BQ : Hid (Below w.heap.size w w1) := hBW.out.trans (hq.mono hBW.out.size)
    clear hw1 q0 hq
    refine wpAny_of_held (S := fun wx => ∀ i, i < 3 → wx.cell? ⟨m, i, none⟩ = some (.string (rootO i))) _ _ _ _ ?_
    refine brH 2 fun K hK => ?_
    go_simp
    refine (pick3 a _ ha).mono ?_
    rintro e wq ⟨rfl, hwq⟩
    rw [hwq]
    clear hwq
    refine hK.out _ _ HS.out (fun _ => ?_)
    clear hK K
    refine tkH 3 rfl HS.out (by intro w hSw; skip; go_simp; all_goals with_reducible rfl) ?_
    refine tkH 4 rfl HS.out (by intro w hSw; have c0 := hSw (pickF a 3) la; go_simp; all_goals with_reducible rfl) ?_
    refine brH 7 fun K hK => ?_
    go_simp
    refine (pick6 b _ hb).mono ?_
    rintro e wq ⟨rfl, hwq⟩
    rw [hwq]
    clear hwq
    refine hK.out _ _ HS.out (fun _ => ?_)
    clear hK K
    refine tkH 8 rfl HS.out (by intro w hSw; skip; go_simp; all_goals with_reducible rfl) ?_
    refine tkH 9 rfl HS.out (by intro w hSw; skip; go_simp; all_goals with_reducible rfl) ?_
    refine brH 12 fun K hK => ?_
    go_simp
    refine (pick6 c _ hc).mono ?_
    rintro e wq ⟨rfl, hwq⟩
    rw [hwq]
    clear hwq
    refine hK.out _ _ HS.out (fun _ => ?_)
    clear hK K
    refine tkH 13 rfl HS.out (by intro w hSw; skip; go_simp; all_goals with_reducible rfl) ?_
    refine brH 16 fun K hK => ?_
    go_simp
    refine (pick3 a _ ha).mono ?_
    rintro e wq ⟨rfl, hwq⟩
    rw [hwq]
    clear hwq
    refine hK.out _ _ HS.out (fun _ => ?_)
    clear hK K
    refine tkH 17 rfl HS.out (by intro w hSw; skip; go_simp; all_goals with_reducible rfl) ?_
    refine tkH 24 rfl HS.out (by intro w hSw; skip; go_simp; all_goals with_reducible rfl) ?_
    have r0 := (cells_at W1.out.res 0).trans rfl
    have r1 := (cells_at W1.out.res 1).trans rfl
    have r2 := (cells_at W1.out.res 2).trans rfl
    have r3 := (cells_at W1.out.res 3).trans rfl
    have r4 := (cells_at W1.out.res 4).trans rfl
    have r5 := (cells_at W1.out.res 5).trans rfl
    have f0 := W1.out.fz 0
    have f1 := W1.out.fz 1
    have f2 := W1.out.fz 2
    have f3 := W1.out.fz 3
    have f4 := W1.out.fz 4
    have f5 := W1.out.fz 5
    refine brH 25 fun K hK => ?_
    go_simp
    generalize hw5 : World.setCell _ _ _ = w5
    obtain ⟨⟨d0, d1, d2, d3, d4, d5⟩, ho, hs5, hb5⟩ := setSix W1.out hw5
    refine hK.out _ _ (fun i hi => (World.cell?_of_block (w := w1) (ho m (by have := hnm.out; omega))).trans (HS.out i hi)) (fun _ => ?_)
    clear hK K hw5 r0 r1 r2 r3 r4 r5 f0 f1 f2 f3 f4 f5
    refine wpAnyH_done (by kernel_rfl) ?_ _
    have PM := hid (W1.out.polM (a := a) (b := b) (c := c) ho la lb lc)
    have B5 : Hid (Below w.heap.size w w5) := BQ.out.trans (by rw [Hn.out]; exact hb5)
    clear ho hs5 hb5
    go_wp2_with fail
    refine bodyPost_ret (v := polV (polO a b c) (.slice (some ⟨n + 1, 0, none⟩) (1 + pickF b 6) 6) (.slice (some ⟨n + 1 + 1, 0, none⟩) (pickF c 6) 5) (.slice (some ⟨n + 1 + 1 + 1, 0, none⟩) (pickF a 3) 2)) (by simp [results, Tryz.results16, go_sem, d0, d1, d2, d3, d4, d5, polV, polO]) rfl ?_
    exact ⟨_, _, _, rfl, PM.out, B5.out⟩
  · go_simp
    refine (pick3 a _ ha).mono ?_
    rintro e wq ⟨rfl, hwq⟩
    rw [hwq]
    clear hwq
    refine hK _ _ ?_
    clear hK K
    refine wpAny_ready (rs := [0, 7]) (by kernel_rfl) (by simp) (AllReady.cons rfl (fun K hK => ?_) (AllReady.cons rfl (fun K hK => ?_) AllReady.nil))
    · go_simp
      refine hK _ _ ?_
      clear hK K
      generalize hw1 : World.alloc _ _ = w1
      obtain ⟨q0, hq⟩ := one_of hw1
      rw [Hm.out] at q0
      rw [Hm.out]
      have HS : Hid (∀ i, i < 3 → w1.cell? ⟨m, i, none⟩ = some (.string (rootO i))) := root_cells q0
      have W1 : Hid (PolW w1 n) := hPW.out.next hq
      have BQ : Hid (Below w.heap.size w w1) := hBW.out.trans (hq.mono hBW.out.size)
      clear hw1 q0 hq
      refine wpAny_of_held (S := fun wx => ∀ i, i < 3 → wx.cell? ⟨m, i, none⟩ = some (.string (rootO i))) _ _ _ _ ?_
      refine tkH 3 rfl HS.out (by intro w hSw; skip; go_simp; all_goals with_reducible rfl) ?_
      refine tkH 4 rfl HS.out (by intro w hSw; have c0 := hSw (pickF a 3) la; go_simp; all_goals with_reducible rfl) ?_
      refine brH 7 fun K hK => ?_
      go_simp
      refine (pick6 b _ hb).mono ?_
      rintro e wq ⟨rfl, hwq⟩
      rw [hwq]
      clear hwq
      refine hK.out _ _ HS.out (fun _ => ?_)
      clear hK K
      refine tkH 8 rfl HS.out (by intro w hSw; skip; go_simp; all_goals with_reducible rfl) ?_
      refine tkH 9 rfl HS.out (by intro w hSw; skip; go_simp; all_goals with_reducible rfl) ?_
      refine brH 12 fun K hK => ?_
      go_simp
      refine (pick6 c _ hc).mono ?_
      rintro e wq ⟨rfl, hwq⟩
      rw [hwq]
      clear hwq
      refine hK.out _ _ HS.out (fun _ => ?_)
      clear hK K
      refine tkH 13 rfl HS.out (by intro w hSw; skip; go_simp; all_goals with_reducible rfl) ?_
      refine brH 16 fun K hK => ?_
      go_simp
      refine (pick3 a _ ha).mono ?_
      rintro e wq ⟨rfl, hwq⟩
      rw [hwq]
      clear hwq
      refine hK.out _ _ HS.out (fun _ => ?_)
      clear hK K
      refine tkH 17 rfl HS.out (by intro w hSw; skip; go_simp; all_goals with_reducible rfl) ?_
      refine tkH 24 rfl HS.out (by intro w hSw; skip; go_simp; all_goals with_reducible rfl) ?_
      have r0 := (cells_at W1.out.res 0).trans rfl
      have r1 := (cells_at W1.out.res 1).trans rfl
      have r2 := (cells_at W1.out.res 2).trans rfl
      have r3 := (cells_at W1.out.res 3).trans rfl
      have r4 := (cells_at W1.out.res 4).trans rfl
      have r5 := (cells_at W1.out.res 5).trans rfl
      have f0 := W1.out.fz 0
      have f1 := W1.out.fz 1
      have f2 := W1.out.fz 2
      have f3 := W1.out.fz 3
      have f4 := W1.out.fz 4
      have f5 := W1.out.fz 5
      refine brH 25 fun K hK => ?_
      go_simp
      generalize hw5 : World.setCell _ _ _ = w5
      obtain ⟨⟨d0, d1, d2, d3, d4, d5⟩, ho, hs5, hb5⟩ := setSix W1.out hw5
      refine hK.out _ _ (fun i hi => (World.cell?_of_block (w := w1) (ho m (by have := hnm.out; omega))).trans (HS.out i hi)) (fun _ => ?_)
      clear hK K hw5 r0 r1 r2 r3 r4 r5 f0 f1 f2 f3 f4 f5
      refine wpAnyH_done (by kernel_rfl) ?_ _
      have PM := hid (W1.out.polM (a := a) (b := b) (c := c) ho la lb lc)
      have B5 : Hid (Below w.heap.size w w5) := BQ.out.trans (by rw [Hn.out]; exact hb5)
      clear ho hs5 hb5
      go_wp2_with fail
      refine bodyPost_ret (v := polV (polO a b c) (.slice (some ⟨n + 1, 0, none⟩) (1 + pickF b 6) 6) (.slice (some ⟨n + 1 + 1, 0, none⟩) (pickF c 6) 5) (.slice (some ⟨n + 1 + 1 + 1, 0, none⟩) (pickF a 3) 2)) (by simp [results, Tryz.results16, go_sem, d0, d1, d2, d3, d4, d5, polV, polO]) rfl ?_
      exact ⟨_, _, _, rfl, PM.out, B5.out⟩
    · go_simp
      refine (pick6 b _ hb).mono ?_
      rintro e wq ⟨rfl, hwq⟩
      rw [hwq]
      clear hwq
      refine hK _ _ ?_
      clear hK K
      refine tkA 8 ?_
      refine tkA 9 ?_
      refine wpAny_ready (rs := [0, 12]) (by kernel_rfl) (by simp) (AllReady.cons rfl (fun K hK => ?_) (AllReady.cons rfl (fun K hK => ?_) AllReady.nil))
      · go_simp
        refine hK _ _ ?_
        clear hK K
        generalize hw1 : World.alloc _ _ = w1
        obtain ⟨q0, hq⟩ := one_of hw1
        rw [Hm.out] at q0
        rw [Hm.out]
        have HS : Hid (∀ i, i < 3 → w1.cell? ⟨m, i, none⟩ = some (.string (rootO i))) := root_cells q0
        have W1 : Hid (PolW w1 n) := hPW.out.next hq
        have BQ : Hid (Below w.heap.size w w1) := hBW.out.trans (hq.mono hBW.out.size)
        clear hw1 q0 hq
        refine wpAny_of_held (S := fun wx => ∀ i, i < 3 → wx.cell? ⟨m, i, none⟩ = some (.string (rootO i))) _ _ _ _ ?_
        refine tkH 3 rfl HS.out (by intro w hSw; skip; go_simp; all_goals with_reducible rfl) ?_
        refine tkH 4 rfl HS.out (by intro w hSw; have c0 := hSw (pickF a 3) la; go_simp; all_goals with_reducible rfl) ?_
        refine brH 12 fun K hK => ?_
        go_simp
        refine (pick6 c _ hc).mono ?_
        rintro e wq ⟨rfl, hwq⟩
        rw [hwq]
        clear hwq
        refine hK.out _ _ HS.out (fun _ => ?_)
        clear hK K
        refine tkH 13 rfl HS.out (by intro w hSw; skip; go_simp; all_goals with_reducible rfl) ?_
        refine brH 16 fun K hK => ?_
        go_simp
        refine (pick3 a _ ha).mono ?_
        rintro e wq ⟨rfl, hwq⟩
        rw [hwq]
        clear hwq
        refine hK.out _ _ HS.out (fun _ => ?_)
        clear hK K
        refine tkH 17 rfl HS.out (by intro w hSw; skip; go_simp; all_goals with_reducible rfl) ?_
        refine tkH 24 rfl HS.out (by intro w hSw; skip; go_simp; all_goals with_reducible rfl) ?_
        have r0 := (cells_at W1.out.res 0).trans rfl
        have r1 := (cells_at W1.out.res 1).trans rfl
        have r2 := (cells_at W1.out.res 2).trans rfl
        have r3 := (cells_at W1.out.res 3).trans rfl
        have r4 := (cells_at W1.out.res 4).trans rfl
        have r5 := (cells_at W1.out.res 5).trans rfl
        have f0 := W1.out.fz 0
        have f1 := W1.out.fz 1
        have f2 := W1.out.fz 2
        have f3 := W1.out.fz 3
        have f4 := W1.out.fz 4
        have f5 := W1.out.fz 5
        refine brH 25 fun K hK => ?_
        go_simp
        generalize hw5 : World.setCell _ _ _ = w5
        obtain ⟨⟨d0, d1, d2, d3, d4, d5⟩, ho, hs5, hb5⟩ := setSix W1.out hw5
        refine hK.out _ _ (fun i hi => (World.cell?_of_block (w := w1) (ho m (by have := hnm.out; omega))).trans (HS.out i hi)) (fun _ => ?_)
        clear hK K hw5 r0 r1 r2 r3 r4 r5 f0 f1 f2 f3 f4 f5
        refine wpAnyH_done (by kernel_rfl) ?_ _
        have PM := hid (W1.out.polM (a := a) (b := b) (c := c) ho la lb lc)
        have B5 : Hid (Below w.heap.size w w5) := BQ.out.trans (by rw [Hn.out]; exact hb5)
        clear ho hs5 hb5
        go_wp2_with fail
        refine bodyPost_ret (v := polV (polO a b c) (.slice (some ⟨n + 1, 0, none⟩) (1 + pickF b 6) 6) (.slice (some ⟨n + 1 + 1, 0, none⟩) (pickF c 6) 5) (.slice (some ⟨n + 1 + 1 + 1, 0, none⟩) (pickF a 3) 2)) (by simp [results, Tryz.results16, go_sem, d0, d1, d2, d3, d4, d5, polV, polO]) rfl ?_
        exact ⟨_, _, _, rfl, PM.out, B5.out⟩
      · go_simp
        refine (pick6 c _ hc).mono ?_
        rintro e wq ⟨rfl, hwq⟩
        rw [hwq]
        clear hwq
        refine hK _ _ ?_
        clear hK K
        refine tkA 13 ?_
        refine wpAny_ready (rs := [0, 16]) (by kernel_rfl) (by simp) (AllReady.cons rfl (fun K hK => ?_) (AllReady.cons rfl (fun K hK => ?_) AllReady.nil))
        · go_simp
          refine hK _ _ ?_
          clear hK K
          generalize hw1 : World.alloc _ _ = w1
          obtain ⟨q0, hq⟩ := one_of hw1
          rw [Hm.out] at q0
          rw [Hm.out]
          have HS : Hid (∀ i, i < 3 → w1.cell? ⟨m, i, none⟩ = some (.string (rootO i))) := root_cells q0
          have W1 : Hid (PolW w1 n) := hPW.out.next hq
          have BQ : Hid (Below w.heap.size w w1) := hBW.out.trans (hq.mono hBW.out.size)
          clear hw1 q0 hq
          refine wpAny_of_held (S := fun wx => ∀ i, i < 3 → wx.cell? ⟨m, i, none⟩ = some (.string (rootO i))) _ _ _ _ ?_
          refine tkH 3 rfl HS.out (by intro w hSw; skip; go_simp; all_goals with_reducible rfl) ?_
          refine tkH 4 rfl HS.out (by intro w hSw; have c0 := hSw (pickF a 3) la; go_simp; all_goals with_reducible rfl) ?_
          refine brH 16 fun K hK => ?_
          go_simp
          refine (pick3 a _ ha).mono ?_
          rintro e wq ⟨rfl, hwq⟩
          rw [hwq]
          clear hwq
          refine hK.out _ _ HS.out (fun _ => ?_)
          clear hK K
          refine tkH 17 rfl HS.out (by intro w hSw; skip; go_simp; all_goals with_reducible rfl) ?_
          refine tkH 24 rfl HS.out (by intro w hSw; skip; go_simp; all_goals with_reducible rfl) ?_
          have r0 := (cells_at W1.out.res 0).trans rfl
          have r1 := (cells_at W1.out.res 1).trans rfl
          have r2 := (cells_at W1.out.res 2).trans rfl
          have r3 := (cells_at W1.out.res 3).trans rfl
          have r4 := (cells_at W1.out.res 4).trans rfl
          have r5 := (cells_at W1.out.res 5).trans rfl
          have f0 := W1.out.fz 0
          have f1 := W1.out.fz 1
          have f2 := W1.out.fz 2
          have f3 := W1.out.fz 3
          have f4 := W1.out.fz 4
          have f5 := W1.out.fz 5
          refine brH 25 fun K hK => ?_
          go_simp
          generalize hw5 : World.setCell _ _ _ = w5
          obtain ⟨⟨d0, d1, d2, d3, d4, d5⟩, ho, hs5, hb5⟩ := setSix W1.out hw5
          refine hK.out _ _ (fun i hi => (World.cell?_of_block (w := w1) (ho m (by have := hnm.out; omega))).trans (HS.out i hi)) (fun _ => ?_)
          clear hK K hw5 r0 r1 r2 r3 r4 r5 f0 f1 f2 f3 f4 f5
          refine wpAnyH_done (by kernel_rfl) ?_ _
          have PM := hid (W1.out.polM (a := a) (b := b) (c := c) ho la lb lc)
          have B5 : Hid (Below w.heap.size w w5) := BQ.out.trans (by rw [Hn.out]; exact hb5)
          clear ho hs5 hb5
          go_wp2_with fail
          refine bodyPost_ret (v := polV (polO a b c) (.slice (some ⟨n + 1, 0, none⟩) (1 + pickF b 6) 6) (.slice (some ⟨n + 1 + 1, 0, none⟩) (pickF c 6) 5) (.slice (some ⟨n + 1 + 1 + 1, 0, none⟩) (pickF a 3) 2)) (by simp [results, Tryz.results16, go_sem, d0, d1, d2, d3, d4, d5, polV, polO]) rfl ?_
          exact ⟨_, _, _, rfl, PM.out, B5.out⟩
        · go_simp
          refine (pick3 a _ ha).mono ?_
          rintro e wq ⟨rfl, hwq⟩
          rw [hwq]
          clear hwq
          refine hK _ _ ?_
          clear hK K
          refine tkA 17 ?_
          refine brA 0 fun K hK => ?_
          go_simp
          refine hK _ _ ?_; clear hK K
          generalize hw1 : World.alloc _ _ = w1
          obtain ⟨q0, hq⟩ := one_of hw1
          rw [Hm.out] at q0
          rw [Hm.out]
          have HS : Hid (∀ i, i < 3 → w1.cell? ⟨m, i, none⟩ = some (.string (rootO i))) := root_cells q0
          have W1 : Hid (PolW w1 n) := hPW.out.next hq
          have BQ : Hid (Below w.heap.size w w1) := hBW.out.trans (hq.mono hBW.out.size)
          clear hw1 q0 hq
          refine wpAny_of_held (S := fun wx => ∀ i, i < 3 → wx.cell? ⟨m, i, none⟩ = some (.string (rootO i))) _ _ _ _ ?_
          refine tkH 3 rfl HS.out (by intro w hSw; skip; go_simp; all_goals with_reducible rfl) ?_
          refine tkH 4 rfl HS.out (by intro w hSw; have c0 := hSw (pickF a 3) la; go_simp; all_goals with_reducible rfl) ?_
          refine tkH 24 rfl HS.out (by intro w hSw; skip; go_simp; all_goals with_reducible rfl) ?_
          have r0 := (cells_at W1.out.res 0).trans rfl
          have r1 := (cells_at W1.out.res 1).trans rfl
          have r2 := (cells_at W1.out.res 2).trans rfl
          have r3 := (cells_at W1.out.res 3).trans rfl
          have r4 := (cells_at W1.out.res 4).trans rfl
          have r5 := (cells_at W1.out.res 5).trans rfl
          have f0 := W1.out.fz 0
          have f1 := W1.out.fz 1
          have f2 := W1.out.fz 2
          have f3 := W1.out.fz 3
          have f4 := W1.out.fz 4
          have f5 := W1.out.fz 5
          refine brH 25 fun K hK => ?_
          go_simp
          generalize hw5 : World.setCell _ _ _ = w5
          obtain ⟨⟨d0, d1, d2, d3, d4, d5⟩, ho, hs5, hb5⟩ := setSix W1.out hw5
          refine hK.out _ _ (fun i hi => (World.cell?_of_block (w := w1) (ho m (by have := hnm.out; omega))).trans (HS.out i hi)) (fun _ => ?_)
          clear hK K hw5 r0 r1 r2 r3 r4 r5 f0 f1 f2 f3 f4 f5
          refine wpAnyH_done (by kernel_rfl) ?_ _
          have PM := hid (W1.out.polM (a := a) (b := b) (c := c) ho la lb lc)
          have B5 : Hid (Below w.heap.size w w5) := BQ.out.trans (by rw [Hn.out]; exact hb5)
          clear ho hs5 hb5
          go_wp2_with fail
          refine bodyPost_ret (v := polV (polO a b c) (.slice (some ⟨n + 1, 0, none⟩) (1 + pickF b 6) 6) (.slice (some ⟨n + 1 + 1, 0, none⟩) (pickF c 6) 5) (.slice (some ⟨n + 1 + 1 + 1, 0, none⟩) (pickF a 3) 2)) (by simp [results, Tryz.results16, go_sem, d0, d1, d2, d3, d4, d5, polV, polO]) rfl ?_
          exact ⟨_, _, _, rfl, PM.out, B5.out⟩
end Go.Proofs.YtlliliddljkbfaaGreat
