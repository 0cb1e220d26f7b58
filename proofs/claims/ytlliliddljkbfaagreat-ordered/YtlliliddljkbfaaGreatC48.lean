import Derived.Test.YtlliliddljkbfaaGreatC47
import Derived.Deep.QuietTactic
import Derived.BigQuiet
namespace Go.Proofs.YtlliliddljkbfaaGreat
set_option maxHeartbeats 64000000
set_option maxRecDepth 100000
open Go.RowKit Sp
theorem Ordered_c (s1 p1 v1 s2 p2 v2 : Int) (im1 im2 ap : Bool) (w : World) (h1 : -9223372036854775808 ≤ s1 ∧ s1 ≤ 9223372036854775807) (h2 : -9223372036854775808 ≤ s2 ∧ s2 ≤ 9223372036854775807) (hl : Lit w) (hR : ∀ f, ReadOK f) :
    Calls Tryz.prog 5 #[.agg #[.int .i64 s1, .int .i64 p1, .int .i64 v1, .bool im1], .agg #[.int .i64 s2, .int .i64 p2, .int .i64 v2, .bool im2], .bool ap] w fun ex w' => ex = .returned (.bool true) ∧ Below w.heap.size w w' := by
  have HL := hid hl
  have HRD := hid hR
  clear hl hR
  obtain ⟨iS, hiS⟩ := info_str
  have HI : Hid (Tryz.prog.info? 9 = some iS ∧ iS.zero = some (.string ⟨#[]⟩) ∧ iS.size = 1 ∧ iS.bytes = 16) := hiS
  clear hiS
  go_enter Tryz.func5, Tryz.ntmps5
  go_upto_region 3 with fail
  generalize hw0 : World.alloc _ _ = w0
  obtain ⟨b0, b1, b2, b3, bw⟩ := four_of hw0
  clear hw0
  obtain ⟨n, Hn⟩ : ∃ x, Hid (w.heap.size = x) := ⟨_, hid rfl⟩
  rw [Hn.out] at b0 b1 b2 b3
  rw [Hn.out]
  have B2 : Hid (∀ i, i < 6 → w0.cell? ⟨n + 1 + 1, i, none⟩ = some (.string (selO i))) := sel_cells b2
  have B3 : Hid (∀ i, i < 6 → w0.cell? ⟨n + 1 + 1 + 1, i, none⟩ = some (.int .i64 (wtO i))) := wt_cells b3
  have BW : Hid (Below w.heap.size w w0) := bw
  have a0 : w0.cell? ⟨n, 0, none⟩ = some (.int .i64 s1) := (cells_at b0 0).trans rfl
  have a3 : w0.cell? ⟨n, 3, none⟩ = some (.bool im1) := (cells_at b0 3).trans rfl
  have c0 : w0.cell? ⟨n + 1, 0, none⟩ = some (.int .i64 s2) := (cells_at b1 0).trans rfl
  have c3 : w0.cell? ⟨n + 1, 3, none⟩ = some (.bool im2) := (cells_at b1 3).trans rfl
  clear b0 b1 b2 b3 bw
  go_wp2_with fail
  refine (pick_c s1 w0 h1.1 h1.2).mono ?_
  rintro ex wq ⟨⟨i, hi, rfl⟩, hwq⟩
  rw [hwq]
  clear hwq
  go_wp2_with fail
  refine (pick_c s2 w0 h2.1 h2.2).mono ?_
  rintro ex wq ⟨⟨k, hk, rfl⟩, hwq⟩
  rw [hwq]
  clear hwq
  have d0 := B2.out i hi
  have d1 := B2.out k hk
  have hi6 : (i : Int) < 6 := by omega
  have hk6 : (k : Int) < 6 := by omega
  have hz1 := selO_size i
  have hz2 := selO_size k
  obtain ⟨j1, J1⟩ : ∃ j, Hid (im1 = j) := ⟨_, hid rfl⟩
  obtain ⟨j2, J2⟩ : ∃ j, Hid (im2 = j) := ⟨_, hid rfl⟩
  obtain ⟨ja, J3⟩ : ∃ j, Hid (ap = j) := ⟨_, hid rfl⟩
  obtain ⟨k1, k2, k3, k4, k5, k6, k7⟩ := chk_split (chk_all hi hk j1 j2 ja)
  have K1 := hid k1
  have K2 := hid k2
  have K3 := hid k3
  have K4 := hid k4
  have K5 := hid k5
  have K6 := hid k6
  have K7 := hid k7
  clear k1 k2 k3 k4 k5 k6 k7
  obtain ⟨x0, Hx0⟩ : ∃ x, Hid ((shO i k j1 j2 ja).headD nob = x) := ⟨_, hid rfl⟩
  rw [Hx0.out] at K2 K6
  cases ap
  all_goals
    cases im1 <;> cases im2
    all_goals
        go_upto_region 16 with fail
        generalize hw1 : World.alloc _ _ = w1
        first
          | (obtain ⟨b0, b1, b2, bw1⟩ := three_of hw1
             obtain ⟨bs, Hbs⟩ : ∃ x, Hid (w0.heap.size = x) := ⟨_, hid rfl⟩
             rw [Hbs.out] at b0 b1 b2
             rw [Hbs.out]
             have HB0 : Hid (w0.heap.size ≤ bs) := by show _ ≤ _; rw [Hbs.out]; exact Nat.le_refl _
             have RS : Hid (w1.ownsRow bs 9 1 (.slice (some ⟨bs, 0, none⟩) 1 1) 1 ((shO i k j1 j2 ja).map Value.string)) := by show World.ownsRow _ _ _ _ _ _ _; rw [← J1.out, ← J2.out, ← J3.out]; exact row_own _ rfl b0 (Nat.le_refl _) (by omega)
             have HN : Hid (1 = (shO i k j1 j2 ja).length) := by show _ = _; rw [← J1.out, ← J2.out, ← J3.out]; rfl)
          | (obtain ⟨_, b0, b1, b2, bw1⟩ := four_of hw1
             obtain ⟨bs, Hbs⟩ : ∃ x, Hid (w0.heap.size + 1 = x) := ⟨_, hid rfl⟩
             rw [Hbs.out] at b0 b1 b2
             rw [Hbs.out]
             have HB0 : Hid (w0.heap.size ≤ bs) := by show _ ≤ _; rw [← Hbs.out]; exact Nat.le_succ _
             have RS : Hid (w1.ownsRow bs 9 1 (.slice (some ⟨bs, 0, none⟩) 2 2) 2 ((shO i k j1 j2 ja).map Value.string)) := by show World.ownsRow _ _ _ _ _ _ _; rw [← J1.out, ← J2.out, ← J3.out]; exact row_own _ rfl b0 (Nat.le_refl _) (by omega)
             have HN : Hid (2 = (shO i k j1 j2 ja).length) := by show _ = _; rw [← J1.out, ← J2.out, ← J3.out]; rfl)
        clear hw1
        have PG : Hid (PgO bs w1.heap.size w1 (.slice (some ⟨bs + 1 + 1, 0, none⟩) 3 3)) := pg_sg ⟨by omega, (Array.getElem?_eq_some_iff.1 b2).1⟩ ⟨by omega, (Array.getElem?_eq_some_iff.1 b1).1⟩ b2 b1
        have C1 : Hid (w1.cell? ⟨bs, 0, none⟩ = some (.string x0)) := by show _ = _; rw [← Hx0.out, ← J1.out, ← J2.out, ← J3.out]; exact (cells_at b0 0).trans rfl
        have BW1 : Hid (Below w.heap.size w w1) := BW.out.trans (bw1.mono BW.out.size)
        have L1 : Hid (Lit w1) := HL.out.below BW1.out
        have f3 := cell_next a3 bw1
        have g3 := cell_next c3 bw1
        have e1 := cell_next (B3.out i hi) bw1
        have e2 := cell_next (B3.out k hk) bw1
        have HS1 : Hid (w.heap.size ≤ w1.heap.size) := BW1.out.size
        have HS0 : Hid (w.heap.size ≤ bs) := Nat.le_trans BW.out.size HB0.out
        clear b0 b1 b2 bw1 a0 a3 c0 c3 d0 d1
        first
          | (have hq := f3.trans g3.symm
             clear hq
             by_cases hwt : wtO k < wtO i
             all_goals
               first
                 | have HW : Hid (wantO i k j1 j2 = ⟨#[111, 110, 101]⟩) := by show _ = _; rw [← J1.out, ← J2.out]; exact (if_neg (by decide)).trans (if_pos hwt)
                 | have HW : Hid (wantO i k j1 j2 = ⟨#[116, 119, 111]⟩) := by show _ = _; rw [← J1.out, ← J2.out]; exact (if_neg (by decide)).trans (if_neg hwt)
               go_upto_region 19 with fail
               go_quiet (fail)
               go_upto_region 21 with fail
               generalize hz : World.drewN w1 nq = wz
               have bz : Below w1.heap.size w1 wz := by rw [← hz]; exact ⟨rfl, rfl, rfl, Nat.le_refl _, fun _ _ => rfl⟩
               clear hz hwt)
          | (first
               | have HW : Hid (wantO i k j1 j2 = ⟨#[111, 110, 101]⟩) := by show _ = _; rw [← J1.out, ← J2.out]; rfl
               | have HW : Hid (wantO i k j1 j2 = ⟨#[116, 119, 111]⟩) := by show _ = _; rw [← J1.out, ← J2.out]; rfl
             go_upto_region 21 with fail
             obtain ⟨wz, hz⟩ : ∃ x, w1 = x := ⟨_, rfl⟩
             have bz : Below w1.heap.size w1 wz := by rw [← hz]; exact Below.refl _ _
             rw [hz]
             clear hz)
        all_goals
          have RZ := hid (own_next RS.out bz)
          have PZ := hid (PG.out.next bz (Nat.le_refl _))
          have CZ := hid (cell_next C1.out bz)
          have BZ := hid (BW1.out.trans (bz.mono HS1.out))
          have NZ : Hid (w1.heap.size ≤ wz.heap.size) := bz.size
          clear RS PG C1 L1 f3 g3 e1 e2 bz
          go_wp2_with fail
          refine (Computed_o (e := 1) PZ.out NZ.out RZ.out HN.out (by omega) (by omega) (HL.out.below BZ.out) (by omega) rfl (by decide) K1.out (K4.out.trans HW.out) HRD.out).mono ?_
          rintro ex wa ⟨rfl, hb⟩
          have RA := hid (own_next RZ.out hb)
          have PA := hid (PZ.out.next hb NZ.out)
          have CA := hid (cell_next CZ.out hb)
          have BA := hid (BZ.out.trans (hb.mono BZ.out.size))
          have NA : Hid (w1.heap.size ≤ wa.heap.size) := Nat.le_trans NZ.out hb.size
          clear hb RZ PZ CZ BZ NZ
          go_wp2_with fail
          refine (Computed_o (e := 1) (ans := ⟨#[]⟩) PA.out NA.out RA.out HN.out (by omega) (by omega) (HL.out.below BA.out) (by omega) rfl (by decide) K1.out K5.out HRD.out).mono ?_
          rintro ex wb ⟨rfl, hb⟩
          have RB := hid (own_next RA.out hb)
          have PB := hid (PA.out.next hb NA.out)
          have cb := cell_next CA.out hb
          have BB := hid (BA.out.trans (hb.mono BA.out.size))
          have NB : Hid (w1.heap.size ≤ wb.heap.size) := Nat.le_trans NA.out hb.size
          clear hb RA PA CA BA NA
          go_wp2_with fail
          generalize hw3 : World.alloc _ _ = w3
          obtain ⟨q0, bq⟩ := one_of hw3
          have RC := hid (own_next RB.out bq)
          have PC := hid (PB.out.next bq NB.out)
          have BC := hid (BB.out.trans (bq.mono BB.out.size))
          have NC : Hid (w1.heap.size ≤ w3.heap.size) := Nat.le_trans NB.out bq.size
          have R3 : Hid (w3.ownsRow wb.heap.size 9 1 (.slice (some ⟨wb.heap.size, 0, none⟩) 2 2) 2 ([x0, belO].map Value.string)) := row_own _ rfl q0 (Nat.le_refl _) (by omega)
          clear hw3 q0 bq RB PB cb BB NB
          refine (Computed_o (e := 2) (ans := ⟨#[49, 112, 120]⟩) PC.out NC.out R3.out rfl (by omega) (by omega) (HL.out.below BC.out) (by omega) rfl (by decide) K2.out K6.out HRD.out).mono ?_
          rintro ex wd ⟨rfl, hb⟩
          have RD := hid (own_next RC.out hb)
          have PD := hid (PC.out.next hb NC.out)
          have BD := hid (BC.out.trans (hb.mono BC.out.size))
          have ND : Hid (w1.heap.size ≤ wd.heap.size) := Nat.le_trans NC.out hb.size
          have hds : w.heap.size ≤ wd.heap.size := BD.out.size
          have hdb : bs < wd.heap.size := (RD.out.lt bs rfl).2
          clear hb RC PC BC NC R3
          go_wp2_with (at_builtin; refine wpList_append_own _ rfl _ _ 26 rfl bs 9 iS (.string ⟨#[]⟩) 1 16 Tryz.underlying26 HI.out.1 HI.out.2.1 HI.out.2.2.1 HI.out.2.2.2 rfl (by omega) _ _ _ rfl (RD.out.alloc _) ⟨wd.heap.size, 0, none⟩ 1 1 [.string unsO] rfl rfl (cell_one_new _ _ _) (str_oneCell _) ?_ ?_ ?_ ?_)
          · unfold maxLen; omega
          · omega
          · simp; omega
          intro v4 w4 hown4 hgr4 _
          have R4 := hid (own_snoc hown4)
          have P4 := hid ((PD.out.next ((Below.refl _ _).alloc (Nat.le_refl _) _) ND.out).grown hgr4 (by have := ND.out; simp; omega))
          have B4 : Hid (Below w.heap.size w w4) := (BD.out.alloc hds _).grown hgr4 (by simp; omega) (fun r hr => by cases hr; exact HS0.out)
          have N4 : Hid (w1.heap.size ≤ w4.heap.size) := Nat.le_trans ND.out (Nat.le_trans (by simp) hgr4.size)
          clear hown4 hgr4 hds hdb RD PD BD ND
          go_wp2_with fail
          refine (Computed_o (e := 2) P4.out N4.out R4.out (by rw [List.length_append, ← HN.out]; rfl) (by omega) (by omega) (HL.out.below B4.out) (by omega) rfl (by decide) K3.out (K7.out.trans HW.out) HRD.out).mono ?_
          rintro ex w5 ⟨rfl, hb⟩
          have B5 := hid (B4.out.trans (hb.mono B4.out.size))
          clear hb R4 P4 B4 N4
          go_wp2_with fail
          go_ret
          exact ⟨rfl, B5.out⟩
end Go.Proofs.YtlliliddljkbfaaGreat
