import Derived.Test.YtlliliddljkbfaaGreatC7
import Derived.Test.YtlliliddljkbfaaGreatC8
import Derived.Test.YtlliliddljkbfaaGreatC22
import Derived.Test.YtlliliddljkbfaaGreatC26
namespace Go.Proofs.YtlliliddljkbfaaGreat
set_option maxHeartbeats 64000000
set_option maxRecDepth 100000
open Go.RowKit Sp
def onS (p : Page) (k : Nat) (nm : ByteArray) : Nat :=
  if k = 116 then (if nm = nob then 2 ^ p.length - 1 else setN (whB p (fun x => decide (x.tag = nm))) p.length)
  else if k = 35 then setN (whB p (fun x => decide (x.id = nm))) p.length
  else setN (whB p (fun x => x.classes.contains nm)) p.length
def okP (k : Nat) : Prop := k = 116 ∨ k = 35 ∨ k = 46
theorem onS_lt (p : Page) (k : Nat) (nm : ByteArray) (hp : p.length ≤ 30) : onS p k nm < 18446744073709551616 := by
  unfold onS
  have := all_lt p.length hp
  repeat' split
  all_goals first | omega | exact setN_lt64 _ _ hp
theorem star_on (B : Nat) (p : Page) (a : Option Addr) (cap : Nat) (w : World) (h : PgM B w p a cap) :
    Calls Tryz.prog 331 #[.agg #[], .agg #[.slice a p.length cap]] w fun ex w' => ex = .returned (.int .u64 ((2 ^ p.length - 1 : Nat) : Int)) ∧ Below w.heap.size w w' := by
  have hlen := h.len
  clear h
  go_enter Tryz.func331, Tryz.ntmps331
  go_wp2_with fail
  refine (All_c p.length a cap _ hlen.2).mono ?_
  rintro e wq ⟨rfl, hwq⟩
  have B3 : Hid (Below w.heap.size w wq) := by
    first
      | exact hwq
      | exact ((Below.refl _ _).alloc (Nat.le_refl _) _).trans (hwq.mono (by simp))
      | exact (((Below.refl _ _).alloc (Nat.le_refl _) _).alloc (by simp) _).trans (hwq.mono (by simp; omega))
  clear hwq
  go_wp2_with fail
  go_ret
  exact ⟨rfl, B3.out⟩
theorem tag1_c (x : Elem) (ca aa : Option Addr) (cl cc al ac : Nat) (nm : ByteArray) (tb : Nat) (w : World) (hb : VarB w tb (.string nm) 309) :
    Calls Tryz.prog 329 #[elmV x (.slice ca cl cc) (.slice aa al ac), .pointer (some ⟨tb, 0, none⟩)] w fun ex w' => ex = .returned (.bool (decide (x.tag = nm))) ∧ Below w.heap.size w w' := by
  unfold elmV
  have X2 : Hid (XE (w.alloc (.cells #[.int .i64 x.parent, .string x.tag, .string x.id, .slice ca cl cc, .slice aa al ac] 35)) w.heap.size x (.slice ca cl cc) (.slice aa al ac)) := heap_alloc_new w _
  have B2 : Hid (Below w.heap.size w (w.alloc (.cells #[.int .i64 x.parent, .string x.tag, .string x.id, .slice ca cl cc, .slice aa al ac] 35))) := (Below.refl _ _).alloc (Nat.le_refl _) _
  have c0 := (hb.alloc (.cells #[.int .i64 x.parent, .string x.tag, .string x.id, .slice ca cl cc, .slice aa al ac] 35)).c
  obtain ⟨d0, d1, d2, d3, d4⟩ := X2.out.cs
  have HV : Hid ((x.tag.toList == nm.toList) = decide (x.tag = nm)) := bytes_beq _ _
  go_enter Tryz.func329, Tryz.ntmps329
  go_wp2_with fail
  go_ret
  exact ⟨rbool HV.out, B2.out⟩
theorem id1_c (x : Elem) (ca aa : Option Addr) (cl cc al ac : Nat) (nm : ByteArray) (tb : Nat) (w : World) (hb : VarB w tb (.string nm) 332) :
    Calls Tryz.prog 337 #[elmV x (.slice ca cl cc) (.slice aa al ac), .pointer (some ⟨tb, 0, none⟩)] w fun ex w' => ex = .returned (.bool (decide (x.id = nm))) ∧ Below w.heap.size w w' := by
  unfold elmV
  have X2 : Hid (XE (w.alloc (.cells #[.int .i64 x.parent, .string x.tag, .string x.id, .slice ca cl cc, .slice aa al ac] 35)) w.heap.size x (.slice ca cl cc) (.slice aa al ac)) := heap_alloc_new w _
  have B2 : Hid (Below w.heap.size w (w.alloc (.cells #[.int .i64 x.parent, .string x.tag, .string x.id, .slice ca cl cc, .slice aa al ac] 35))) := (Below.refl _ _).alloc (Nat.le_refl _) _
  have c0 := (hb.alloc (.cells #[.int .i64 x.parent, .string x.tag, .string x.id, .slice ca cl cc, .slice aa al ac] 35)).c
  obtain ⟨d0, d1, d2, d3, d4⟩ := X2.out.cs
  have HV : Hid ((x.id.toList == nm.toList) = decide (x.id = nm)) := bytes_beq _ _
  go_enter Tryz.func337, Tryz.ntmps337
  go_wp2_with fail
  go_ret
  exact ⟨rbool HV.out, B2.out⟩
theorem class1_c (B : Nat) (x : Elem) (cv : Value) (aa : Option Addr) (al ac : Nat) (nm : ByteArray) (tb : Nat) (w : World) (hb : VarB w tb (.string nm) 333) (hcv : SG CStr 1 (fun b => b < B) w cv x.classes) (hB : B ≤ w.heap.size) :
    Calls Tryz.prog 341 #[elmV x cv (.slice aa al ac), .pointer (some ⟨tb, 0, none⟩)] w fun ex w' => ex = .returned (.bool (x.classes.contains nm)) ∧ Below w.heap.size w w' := by
  obtain ⟨ca, cc, rfl⟩ := hcv.form
  unfold elmV
  have X2 : Hid (XE (w.alloc (.cells #[.int .i64 x.parent, .string x.tag, .string x.id, .slice ca x.classes.length cc, .slice aa al ac] 35)) w.heap.size x (.slice ca x.classes.length cc) (.slice aa al ac)) := heap_alloc_new w _
  have B2 : Hid (Below w.heap.size w (w.alloc (.cells #[.int .i64 x.parent, .string x.tag, .string x.id, .slice ca x.classes.length cc, .slice aa al ac] 35))) := (Below.refl _ _).alloc (Nat.le_refl _) _
  have c0 := (hb.alloc (.cells #[.int .i64 x.parent, .string x.tag, .string x.id, .slice ca x.classes.length cc, .slice aa al ac] 35)).c
  obtain ⟨d0, d1, d2, d3, d4⟩ := X2.out.cs
  have HS : Hid (SG CStr 1 (fun b => b < B) (w.alloc (.cells #[.int .i64 x.parent, .string x.tag, .string x.id, .slice ca x.classes.length cc, .slice aa al ac] 35)) (.slice ca x.classes.length cc) x.classes) := hcv.below CStr.fair B2.out hB
  clear hcv
  go_enter Tryz.func341, Tryz.ntmps341
  go_wp2_with fail
  refine (has_c _ x.classes _ nm _ HS.out).mono ?_
  rintro e wq ⟨rfl, hwq⟩
  rw [hwq]
  clear hwq
  go_wp2_with fail
  go_ret
  exact ⟨rfl, B2.out⟩
theorem tag_on (B : Nat) (p : Page) (a : Option Addr) (cap : Nat) (nm : ByteArray) (w : World) (h : PgM B w p a cap) :
    Calls Tryz.prog 325 #[.agg #[.string nm], .agg #[.slice a p.length cap]] w fun ex w' => ex = .returned (.int .u64 (setN (whB p (fun x => decide (x.tag = nm))) p.length : Int)) ∧ Below w.heap.size w w' := by
  have hmf := mf_run
  have hBw := h.lt
  obtain ⟨V1, V2, hb⟩ := two_blocks w (.string nm) 309 (.slice a p.length cap) 66
  have P2 : Hid (PgM B ((w.alloc (.cells #[.string nm] 309)).alloc (.cells #[.slice a p.length cap] 66)) p a cap) := h.below hb hBw
  have c1 := V1.c
  have c2 := V2.c
  have H1 : Hid (VarB ((w.alloc (.cells #[.string nm] 309)).alloc (.cells #[.slice a p.length cap] 66)) w.heap.size (.string nm) 309) := V1
  have B2 : Hid (Below w.heap.size w ((w.alloc (.cells #[.string nm] 309)).alloc (.cells #[.slice a p.length cap] 66))) := hb
  clear V1 V2 hb h
  go_enter Tryz.func325, Tryz.ntmps325
  go_wp2_with fail
  generalize (w.alloc (.cells #[.string nm] 309)).alloc (.cells #[.slice a p.length cap] 66) = w2 at *
  refine (Where_c B p a cap _ _ (fun x => decide (x.tag = nm)) w2 P2.out (fun _ _ => rfl) ?_).mono ?_
  · intro i hi cv av w' hb' hcv hav
    obtain ⟨ca, cc, rfl⟩ := hcv.form
    obtain ⟨aa, ac, rfl⟩ := hav.form
    exact tag1_c _ _ _ _ _ _ _ nm _ w' (H1.out.below hb' H1.out.lt)
  · rintro e wq ⟨rfl, hwq⟩
    have B3 : Hid (Below w.heap.size w wq) := B2.out.trans (hwq.mono B2.out.size)
    clear hwq
    go_wp2_with fail
    go_ret
    exact ⟨rfl, B3.out⟩
theorem id_on (B : Nat) (p : Page) (a : Option Addr) (cap : Nat) (nm : ByteArray) (w : World) (h : PgM B w p a cap) :
    Calls Tryz.prog 334 #[.agg #[.string nm], .agg #[.slice a p.length cap]] w fun ex w' => ex = .returned (.int .u64 (setN (whB p (fun x => decide (x.id = nm))) p.length : Int)) ∧ Below w.heap.size w w' := by
  have hmf := mf_run
  have hBw := h.lt
  obtain ⟨V1, V2, hb⟩ := two_blocks w (.string nm) 332 (.slice a p.length cap) 66
  have P2 : Hid (PgM B ((w.alloc (.cells #[.string nm] 332)).alloc (.cells #[.slice a p.length cap] 66)) p a cap) := h.below hb hBw
  have c1 := V1.c
  have c2 := V2.c
  have H1 : Hid (VarB ((w.alloc (.cells #[.string nm] 332)).alloc (.cells #[.slice a p.length cap] 66)) w.heap.size (.string nm) 332) := V1
  have B2 : Hid (Below w.heap.size w ((w.alloc (.cells #[.string nm] 332)).alloc (.cells #[.slice a p.length cap] 66))) := hb
  clear V1 V2 hb h
  go_enter Tryz.func334, Tryz.ntmps334
  go_wp2_with fail
  generalize (w.alloc (.cells #[.string nm] 332)).alloc (.cells #[.slice a p.length cap] 66) = w2 at *
  refine (Where_c B p a cap _ _ (fun x => decide (x.id = nm)) w2 P2.out (fun _ _ => rfl) ?_).mono ?_
  · intro i hi cv av w' hb' hcv hav
    obtain ⟨ca, cc, rfl⟩ := hcv.form
    obtain ⟨aa, ac, rfl⟩ := hav.form
    exact id1_c _ _ _ _ _ _ _ nm _ w' (H1.out.below hb' H1.out.lt)
  · rintro e wq ⟨rfl, hwq⟩
    have B3 : Hid (Below w.heap.size w wq) := B2.out.trans (hwq.mono B2.out.size)
    clear hwq
    go_wp2_with fail
    go_ret
    exact ⟨rfl, B3.out⟩
theorem class_on (B : Nat) (p : Page) (a : Option Addr) (cap : Nat) (nm : ByteArray) (w : World) (h : PgM B w p a cap) :
    Calls Tryz.prog 338 #[.agg #[.string nm], .agg #[.slice a p.length cap]] w fun ex w' => ex = .returned (.int .u64 (setN (whB p (fun x => x.classes.contains nm)) p.length : Int)) ∧ Below w.heap.size w w' := by
  have hmf := mf_run
  have hBw := h.lt
  obtain ⟨V1, V2, hb⟩ := two_blocks w (.string nm) 333 (.slice a p.length cap) 66
  have P2 : Hid (PgM B ((w.alloc (.cells #[.string nm] 333)).alloc (.cells #[.slice a p.length cap] 66)) p a cap) := h.below hb hBw
  have c1 := V1.c
  have c2 := V2.c
  have H1 : Hid (VarB ((w.alloc (.cells #[.string nm] 333)).alloc (.cells #[.slice a p.length cap] 66)) w.heap.size (.string nm) 333) := V1
  have B2 : Hid (Below w.heap.size w ((w.alloc (.cells #[.string nm] 333)).alloc (.cells #[.slice a p.length cap] 66))) := hb
  clear V1 V2 hb h
  go_enter Tryz.func338, Tryz.ntmps338
  go_wp2_with fail
  generalize (w.alloc (.cells #[.string nm] 333)).alloc (.cells #[.slice a p.length cap] 66) = w2 at *
  refine (Where_c B p a cap _ _ (fun x => x.classes.contains nm) w2 P2.out (fun _ _ => rfl) ?_).mono ?_
  · intro i hi cv av w' hb' hcv hav
    obtain ⟨aa, ac, rfl⟩ := hav.form
    exact class1_c B _ _ _ _ _ nm _ w' (H1.out.below hb' H1.out.lt) hcv (Nat.le_trans P2.out.lt hb'.size)
  · rintro e wq ⟨rfl, hwq⟩
    have B3 : Hid (Below w.heap.size w wq) := B2.out.trans (hwq.mono B2.out.size)
    clear hwq
    go_wp2_with fail
    go_ret
    exact ⟨rfl, B3.out⟩
theorem mo_star (W : World) : (method 503 311 (.agg #[]) "rinse/selectors.on").run Tryz.prog W = .ok (331, .agg #[]) W := by kernel_rfl
theorem mo_tag (nm : ByteArray) (W : World) : (method 503 309 (.agg #[.string nm]) "rinse/selectors.on").run Tryz.prog W = .ok (325, .agg #[.string nm]) W := by kernel_rfl
theorem mo_id (nm : ByteArray) (W : World) : (method 503 332 (.agg #[.string nm]) "rinse/selectors.on").run Tryz.prog W = .ok (334, .agg #[.string nm]) W := by kernel_rfl
theorem mo_class (nm : ByteArray) (W : World) : (method 503 333 (.agg #[.string nm]) "rinse/selectors.on").run Tryz.prog W = .ok (338, .agg #[.string nm]) W := by kernel_rfl
theorem road_on (B : Nat) (p : Page) (a : Option Addr) (cap : Nat) (k : Nat) (nm how v : ByteArray) (lv : Value) (pl : Nat) (w : World) (h : PgM B w p a cap) (hk : okP k) :
    ∃ T u K rcv, partV k nm how v lv pl = .iface T u ∧ (∀ W : World, (method 503 T u "rinse/selectors.on").run Tryz.prog W = .ok (K, rcv) W) ∧ (∀ (args : Array Value) (W : World), (callFunc K args).run Tryz.prog W = .ok (.enter K args) W) ∧
      ∀ w', Below w.heap.size w w' → Calls Tryz.prog K #[rcv, .agg #[.slice a p.length cap]] w' fun e w'' => e = .returned (.int .u64 (onS p k nm : Int)) ∧ Below w'.heap.size w' w'' := by
  unfold partV onS
  rcases hk with rfl | rfl | rfl
  · rw [if_pos rfl, if_pos rfl]
    by_cases e : nm = nob
    · rw [if_pos e, if_pos e]
      exact ⟨_, _, _, _, rfl, mo_star, fun _ _ => rfl, fun w' hb => star_on B p a cap w' (h.below hb h.lt)⟩
    · rw [if_neg e, if_neg e]
      exact ⟨_, _, _, _, rfl, mo_tag nm, fun _ _ => rfl, fun w' hb => tag_on B p a cap nm w' (h.below hb h.lt)⟩
  · rw [if_neg (by decide), if_pos rfl, if_neg (by decide), if_pos rfl]
    exact ⟨_, _, _, _, rfl, mo_id nm, fun _ _ => rfl, fun w' hb => id_on B p a cap nm w' (h.below hb h.lt)⟩
  · rw [if_neg (by decide), if_neg (by decide), if_pos rfl, if_neg (by decide), if_neg (by decide)]
    exact ⟨_, _, _, _, rfl, mo_class nm, fun _ _ => rfl, fun w' hb => class_on B p a cap nm w' (h.below hb h.lt)⟩
theorem LG.stq {C : Law Simple} {S : Nat → Prop} {w : World} {l : List Step} {g o i : Nat} (h : LG (PStp C) 2 S w l g o) (hi : i < l.length) : ∃ av, w.cell? ⟨g, o + i * 2, none⟩ = some (.int .i64 (cmb l[i].1)) ∧ w.cell? ⟨g, o + i * 2 + 1, none⟩ = some av ∧ SG C 1 S w av l[i].2 ∧ S g := by
  obtain ⟨h0, cs, ⟨av, rfl, hs⟩, hc⟩ := h.at l g o i hi
  refine ⟨av, ?_, ?_, hs, h0⟩
  · have := hc 0 _ rfl; rwa [Nat.add_zero] at this
  · exact hc 1 _ rfl
theorem LG.prq {f : Nat} {S : Nat → Prop} {w : World} {l : List Simple} {g o i : Nat} (h : LG (PSim f) 1 S w l g o) (hi : i < l.length) : ∃ pv, w.cell? ⟨g, o + i, none⟩ = some pv ∧ PSim f S w l[i] [pv] ∧ S g := by
  obtain ⟨h0, cs, hC, hc⟩ := h.at l g o i hi
  have hl := PSim.sized f _ _ _ _ hC
  obtain ⟨pv, rfl⟩ : ∃ pv, cs = [pv] := by
    match cs, hl with
    | [pv], _ => exact ⟨pv, rfl⟩
  refine ⟨pv, ?_, hC, h0⟩
  have := hc 0 _ rfl
  rw [Nat.mul_one, Nat.add_zero] at this
  exact this
theorem PSim.part {f : Nat} {S : Nat → Prop} {w : World} {k : Nat} {nm h v : ByteArray} {l : Sels} {p : Nat} {pv : Value} (hp : PSim f S w (.mk k nm h v l p) [pv]) : ∃ lv, pv = partV k nm h v lv p := by
  cases f with
  | zero => obtain ⟨_, a, c, e⟩ := hp; exact ⟨_, (List.cons.inj e).1⟩
  | succ f => obtain ⟨lv, e, _⟩ := hp; exact ⟨_, (List.cons.inj e).1⟩
def S2z (w : World) (b : Nat) (x0 x1 : Value) : Prop := w.heap[b]? = some (.cells #[x0, x1] 219 (0, 0))
theorem S2z.cs {w : World} {b : Nat} {x0 x1 : Value} (h : S2z w b x0 x1) : w.cell? ⟨b, 0, none⟩ = some x0 ∧ w.cell? ⟨b, 1, none⟩ = some x1 := by
  have h' : w.heap[b]? = _ := h
  refine ⟨?_, ?_⟩ <;> (unfold World.cell?; rw [h']; rfl)
theorem S2z.lt {w : World} {b : Nat} {x0 x1 : Value} (h : S2z w b x0 x1) : b < w.heap.size := (Array.getElem?_eq_some_iff.1 h).1
theorem S2z.new (w : World) (x0 x1 : Value) : S2z (w.alloc (.cells #[x0, x1] 219)) w.heap.size x0 x1 := heap_alloc_new w _
theorem S2z.below {w w' : World} {b : Nat} {x0 x1 : Value} (h : S2z w b x0 x1) (hb : Below w.heap.size w w') : S2z w' b x0 x1 := by
  show _ = _; rw [hb.block _ h.lt]; exact h
def frS (p : Page) (cb s : Nat) : Nat := if cb = 32 then belN p s p.length else 2 ^ p.length - 1
theorem frS_lt (p : Page) (cb s : Nat) (hp : p.length ≤ 30) : frS p cb s < 18446744073709551616 := by
  unfold frS
  have := all_lt p.length hp
  split
  · exact belN_lt64 p s _ hp
  · omega
def okS : Simple → Prop
  | .mk k _ _ _ _ _ => okP k
def smS (p : Page) : Simple → Nat
  | .mk k nm _ _ _ _ => onS p k nm
def cmS (p : Page) (s : Nat) : List Simple → Nat
  | [] => s
  | x :: r => cmS p (s &&& smS p x) r
def cxS (p : Page) (s : Nat) : List Step → Nat
  | [] => s
  | (cb, all) :: r => cxS p (cmS p (frS p cb s) all) r
def okA (l : List Simple) : Prop := ∀ s ∈ l, okS s
def okC (l : List Step) : Prop := ∀ st ∈ l, (st.1 = 0 ∨ st.1 = 32) ∧ okA st.2
theorem cmS_drop (p : Page) (s : Nat) {l : List Simple} {i : Nat} (h : i < l.length) : cmS p s (l.drop i) = cmS p (s &&& smS p l[i]) (l.drop (i + 1)) := by
  rw [List.drop_eq_getElem_cons h]; rfl
theorem cxS_drop (p : Page) (s : Nat) {l : List Step} {i : Nat} (h : i < l.length) : cxS p s (l.drop i) = cxS p (cmS p (frS p l[i].1 s) l[i].2) (l.drop (i + 1)) := by
  rw [List.drop_eq_getElem_cons h]
  generalize l[i] = st
  obtain ⟨cb, all⟩ := st
  rfl
theorem and_lt64 (s t : Nat) (h : s < 18446744073709551616) : s &&& t < 18446744073709551616 := Nat.lt_of_le_of_lt Nat.and_le_left h
theorem cmS_lt (p : Page) : ∀ (l : List Simple) (s : Nat), s < 18446744073709551616 → cmS p s l < 18446744073709551616
  | [], _, h => h
  | _ :: r, s, h => cmS_lt p r _ (and_lt64 s _ h)
theorem from_c (B : Nat) (p : Page) (a : Option Addr) (cap cb s : Nat) (w : World) (h : PgM B w p a cap) (hs : s < 18446744073709551616) (hc : cb = 0 ∨ cb = 32) :
    Calls Tryz.prog 127 #[.int .i64 (cmb cb), .int .u64 (s : Int), .agg #[.slice a p.length cap]] w fun ex w' => ex = .returned (.int .u64 (frS p cb s : Int)) ∧ Below w.heap.size w w' := by
  have B0 : Hid (Below w.heap.size w (w.alloc (.cells #[.slice a p.length cap] 66))) := (Below.refl _ _).alloc (Nat.le_refl _) _
  have V0 : Hid (VarB (w.alloc (.cells #[.slice a p.length cap] 66)) w.heap.size (.slice a p.length cap) 66) := VarB.new _ _ _
  have hlen := h.len
  have HP0 : Hid (PgM B (w.alloc (.cells #[.slice a p.length cap] 66)) p a cap) := h.alloc _
  have hsz := B0.out.size
  clear h
  have c0 := V0.out.c
  rcases hc with rfl | rfl
  · rw [show cmb 0 = 0 from rfl]
    have HV : Hid (frS p 0 s = 2 ^ p.length - 1) := rfl
    go_enter Tryz.func127, Tryz.ntmps127
    go_wp2_with fail
    generalize w.alloc (.cells #[.slice a p.length cap] 66) = w0 at *
    refine (All_c p.length a cap _ hlen.2).mono ?_
    rintro e wq ⟨rfl, hwq⟩
    have B3 : Hid (Below w.heap.size w wq) := B0.out.trans (hwq.mono hsz)
    clear hwq
    go_wp2_with fail
    go_ret
    exact ⟨by rw [HV.out]; rfl, B3.out⟩
  · rw [show cmb 32 = 1 from rfl]
    have HV : Hid (frS p 32 s = belN p s p.length) := rfl
    go_enter Tryz.func127, Tryz.ntmps127
    go_wp2_with fail
    generalize w.alloc (.cells #[.slice a p.length cap] 66) = w0 at *
    refine (Below_c B p a cap s _ HP0.out hs).mono ?_
    rintro e wq ⟨rfl, hwq⟩
    have B3 : Hid (Below w.heap.size w wq) := B0.out.trans (hwq.mono hsz)
    clear hwq
    go_wp2_with fail
    go_ret
    exact ⟨by rw [HV.out]; rfl, B3.out⟩
theorem COn_c (f B : Nat) (cx : List Step) (v : Value) (p : Page) (a : Option Addr) (cap : Nat) (w : World) (h : SG (PStp (PSim f)) 2 (fun b => b < B) w v cx) (hp : PgM B w p a cap) (hk : okC cx) :
    Calls Tryz.prog 74 #[v, .agg #[.slice a p.length cap]] w fun ex w' => ex = .returned (.int .u64 (cxS p 0 cx : Int)) ∧ Below w.heap.size w w' := by
  have hl := h.len
  have hlen := hp.len
  have hBw := hp.lt
  have B0 : Hid (Below w.heap.size w (w.alloc (.cells #[.slice a p.length cap] 66))) := (Below.refl _ _).alloc (Nat.le_refl _) _
  have V0 : Hid (VarB (w.alloc (.cells #[.slice a p.length cap] 66)) w.heap.size (.slice a p.length cap) 66) := VarB.new _ _ _
  have HP0 : Hid (PgM B (w.alloc (.cells #[.slice a p.length cap] 66)) p a cap) := hp.alloc _
  have hF : Hid (Fair (PStp (PSim f))) := PStp.fair (PSim.fair f)
  have hF2 : Hid (Fair (PSim f)) := PSim.fair f
  have HS : Hid (SG (PStp (PSim f)) 2 (fun b => b < B) (w.alloc (.cells #[.slice a p.length cap] 66)) v cx) := h.below hF.out B0.out hBw
  have HK : Hid (okC cx) := hk
  obtain ⟨ca, cc, rfl⟩ := h.form
  clear h hp hk
  obtain ⟨R, HR⟩ : ∃ R, Hid (cxS p 0 cx = R) := ⟨_, hid rfl⟩
  rw [HR.out]
  go_enter Tryz.func74, Tryz.ntmps74
  go_wp2_with fail
  generalize hw0 : w.alloc (.cells #[.slice a p.length cap] 66) = w0 at *
  have hs0 : w0.heap.size = w.heap.size + 1 := by rw [← hw0]; simp
  clear hw0
  obtain ⟨pb, Hpb⟩ : ∃ pb, Hid (w.heap.size = pb) := ⟨_, hid rfl⟩
  have hpb := Hpb.out
  rw [hpb] at V0
  rw [hpb]
  go_loopg [5, 12] cx.length (fun gg v5 v12 wr => ∃ (s i : Nat), v5 = .int .u64 (s : Int) ∧ v12 = .int .i64 (i : Int) ∧ i + gg = cx.length ∧ s < 18446744073709551616 ∧ Aside (cxS p s (cx.drop i) = R ∧ Below w0.heap.size w0 wr))
  case atStart => exact ⟨0, 0, rfl, rfl, by omega, by omega, HR.out, Below.refl _ _⟩
  case round =>
    obtain ⟨go, hgo⟩ : ∃ go, go = gk := ⟨_, rfl⟩
    obtain ⟨s, i, rfl, rfl, hi, hs, hA⟩ := hrel
    have HC : Hid (cxS p s (cx.drop i) = R ∧ Below w0.heap.size w0 wr) := hA.out
    clear hA
    have hsr := HC.out.2.size
    by_cases hlt : i < cx.length
    · have h1 : (i : Int) < (cx.length : Int) := by omega
      obtain ⟨g, o, rfl, hL, hcap⟩ := HS.out.here (by rintro rfl; simp at hlt)
      obtain ⟨av, d0, d1, hav, hgB⟩ := hL.stq (i := i) hlt
      have hgB' : g < B := hgB
      rw [← HC.out.2.cell (p := ⟨g, _, none⟩) (show g < w0.heap.size by omega)] at d0 d1
      have HKS := HK.out cx[i] (List.getElem_mem hlt)
      have HD : Hid (cxS p s (cx.drop i) = cxS p (cmS p (frS p cx[i].1 s) cx[i].2) (cx.drop (i + 1))) := cxS_drop p s hlt
      generalize cx[i] = st at *
      obtain ⟨cb, all⟩ := st
      have hcb : cb = 0 ∨ cb = 32 := HKS.1
      have HKA : Hid (okA all) := HKS.2
      have HD' : Hid (cxS p (cmS p (frS p cb s) all) (cx.drop (i + 1)) = R) := HD.out.symm.trans HC.out.1
      have hav' : SG (PSim f) 1 (fun b => b < B) w0 av all := hav
      have HAV : Hid (SG (PSim f) 1 (fun b => b < B) w0 av all) := hav'
      have hal := hav'.len
      obtain ⟨la, lc, rfl⟩ := hav'.form
      have d0' : wr.cell? ⟨g, o + i * 2, none⟩ = some (.int .i64 (cmb cb)) := d0
      clear hav hav' hL HD HKS d0
      have T2 : Hid (S2z (wr.alloc (.cells #[.int .i64 (cmb cb), .slice la all.length lc] 219)) wr.heap.size (.int .i64 (cmb cb)) (.slice la all.length lc)) := S2z.new _ _ _
      have X2 : Hid (Below w0.heap.size w0 (wr.alloc (.cells #[.int .i64 (cmb cb), .slice la all.length lc] 219))) := HC.out.2.alloc hsr _
      go_upto_region 5 with fail
      generalize wr.alloc (.cells #[.int .i64 (cmb cb), .slice la all.length lc] 219) = w2 at *
      obtain ⟨gt, Hgt⟩ : ∃ gt, Hid (wr.heap.size = gt) := ⟨_, hid rfl⟩
      have T3 : Hid (S2z w2 gt (.int .i64 (cmb cb)) (.slice la all.length lc)) := by rw [← Hgt.out]; exact T2.out
      rw [Hgt.out]
      clear T2 d0' d1
      obtain ⟨a0, a1⟩ := T3.out.cs
      have hs2 := X2.out.size
      have V2 : Hid (VarB w2 pb (.slice a p.length cap) 66) := V0.out.below X2.out (by omega)
      have c0 := V2.out.c
      have P2 : Hid (PgM B w2 p a cap) := HP0.out.below X2.out HP0.out.lt
      go_wp2_with fail
      refine (from_c B p a cap cb s _ P2.out hs hcb).mono ?_
      obtain ⟨s1, Hs1⟩ : ∃ s1, Hid (frS p cb s = s1) := ⟨_, hid rfl⟩
      have hs1 : s1 < 18446744073709551616 := by rw [← Hs1.out]; exact frS_lt p cb s hlen.2
      rw [Hs1.out]
      rw [Hs1.out] at HD'
      rintro e w3 ⟨rfl, hb3⟩
      have X3 : Hid (Below w0.heap.size w0 w3) := X2.out.trans (hb3.mono hs2)
      have T4 : Hid (S2z w3 gt (.int .i64 (cmb cb)) (.slice la all.length lc)) := T3.out.below hb3
      clear hb3 a0 a1 c0 T3 V2 P2
      obtain ⟨a0, a1⟩ := T4.out.cs
      go_wp2_with fail
      go_loopg [5, 24] all.length (fun gg v5 v24 wr => ∃ (s m : Nat), v5 = .int .u64 (s : Int) ∧ v24 = .int .i64 (m : Int) ∧ m + gg = all.length ∧ s < 18446744073709551616 ∧ Aside (cxS p (cmS p s (all.drop m)) (cx.drop (i + 1)) = R ∧ Below w0.heap.size w0 wr))
      case atStart => exact ⟨s1, 0, rfl, rfl, by omega, hs1, HD'.out, X3.out⟩
      case round =>
        obtain ⟨gi, hgi⟩ : ∃ gi, gi = gk := ⟨_, rfl⟩
        obtain ⟨s2, m, rfl, rfl, hm, hsm, hA⟩ := hrel
        have HC5 : Hid (cxS p (cmS p s2 (all.drop m)) (cx.drop (i + 1)) = R ∧ Below w0.heap.size w0 wr) := hA.out
        clear hA
        have hsr5 := HC5.out.2.size
        by_cases hlm : m < all.length
        · have h2 : (m : Int) < (all.length : Int) := by omega
          have hav5 := HAV.out.below hF2.out HC5.out.2 (by omega)
          obtain ⟨g5, o5, rfl, hL5, hcap5⟩ := hav5.here (by rintro rfl; simp at hlm)
          obtain ⟨pv, c5, hps, _⟩ := hL5.prq (i := m) hlm
          have HAD := cmS_drop p s2 hlm
          have hkm := HKA.out all[m] (List.getElem_mem hlm)
          generalize all[m] = x at *
          obtain ⟨k, nm, how, vv, ll, pl⟩ := x
          obtain ⟨lv, rfl⟩ := hps.part
          have V5 : Hid (VarB wr pb (.slice a p.length cap) 66) := V0.out.below HC5.out.2 (by omega)
          have c0 := V5.out.c
          obtain ⟨T, pu, K, rcv, epv, hmeth, hcall, hC⟩ := road_on B p a cap k nm how vv lv pl wr (HP0.out.below HC5.out.2 HP0.out.lt) hkm
          rw [epv] at c5
          have HCK : Hid (Calls Tryz.prog K #[rcv, .agg #[.slice a p.length cap]] wr fun e w'' => e = .returned (.int .u64 (onS p k nm : Int)) ∧ Below wr.heap.size wr w'') := hC wr (Below.refl _ _)
          obtain ⟨t, Ht⟩ : ∃ t, Hid (onS p k nm = t) := ⟨_, hid rfl⟩
          have ht : t < 18446744073709551616 := by rw [← Ht.out]; exact onS_lt p k nm hlen.2
          have HE : Hid (cxS p (cmS p (s2 &&& t) (all.drop (m + 1))) (cx.drop (i + 1)) = R) := by
            show _ = _
            rw [← HC5.out.1, HAD, ← Ht.out]; rfl
          have HB : Hid (bits .and .u64 (s2 : Int) (t : Int) = ((s2 &&& t : Nat) : Int)) := bits_and_u64_nat s2 t hsm ht
          have hst : s2 &&& t < 18446744073709551616 := and_lt64 s2 t hsm
          rw [Ht.out] at HCK
          clear hps hC HAD hL5 hav5 hkm epv
          go_wp2_with fail
          refine HCK.out.mono ?_
          rintro e w6 ⟨rfl, hb6⟩
          have X6 : Hid (Below w0.heap.size w0 w6) := HC5.out.2.trans (hb6.mono hsr5)
          clear hb6 HCK hmeth hcall c5 c0
          go_wp2_with fail
          go_roundg (gi - 1)
          case measure => omega
          case rel => exact ⟨s2 &&& t, m + 1, by rw [HB.out], by congr 1, by omega, hst, HE.out, X6.out⟩
        · have h2 : (all.length : Int) ≤ (m : Int) := by omega
          have HE : Hid (cxS p s2 (cx.drop (i + 1)) = R) := by
            show _ = _
            rw [← HC5.out.1, List.drop_of_length_le (show all.length ≤ m by omega)]; rfl
          go_wp2_with fail
          go_roundg (go - 1)
          case measure => omega
          case rel => exact ⟨s2, i + 1, rfl, by congr 1, by omega, hsm, HE.out, HC5.out.2⟩
    · have h1 : (cx.length : Int) ≤ (i : Int) := by omega
      have HV : Hid (s = R) := by
        show _ = _
        rw [← HC.out.1, List.drop_of_length_le (show cx.length ≤ i by omega)]; rfl
      have BE : Hid (Below w.heap.size w wr) := by
        have : Below w0.heap.size w0 wr := HC.out.2
        exact B0.out.trans (this.mono (by omega))
      go_wp2_with fail
      go_ret
      exact ⟨by rw [HV.out]; rfl, BE.out⟩
end Go.Proofs.YtlliliddljkbfaaGreat
