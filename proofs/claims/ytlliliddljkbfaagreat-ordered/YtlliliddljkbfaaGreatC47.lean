import Derived.Test.YtlliliddljkbfaaGreatC42
import Derived.Test.YtlliliddljkbfaaGreatC46
namespace Go.Proofs.YtlliliddljkbfaaGreat
set_option maxHeartbeats 64000000
set_option maxRecDepth 100000
open Go.RowKit Sp
theorem rem6 (c : Int) (h : 0 ≤ c) : ∃ i : Nat, i < 6 ∧ Int.tmod c 6 = (i : Int) := by
  refine ⟨(Int.tmod c 6).toNat, ?_, ?_⟩
  · rw [Int.tmod_eq_emod_of_nonneg h]; omega
  · rw [Int.tmod_eq_emod_of_nonneg h]; omega
theorem pick_c (c : Int) (w : World) (h1 : -9223372036854775808 ≤ c) (h2 : c ≤ 9223372036854775807) : Calls Tryz.prog 14 #[.int .i64 c, .int .i64 6] w fun e w' => (∃ i : Nat, i < 6 ∧ e = .returned (.int .i64 (i : Int))) ∧ w' = w := by
  by_cases h0 : c < 0
  · obtain ⟨i, hi, ei⟩ := rem6 (-(c + 1)) (by omega)
    go_enter Tryz.func14, Tryz.ntmps14
    go_wp2_with fail
    go_ret
    exact ⟨⟨i, hi, rfl⟩, rfl⟩
  · have h3 : 0 ≤ c := by omega
    obtain ⟨i, hi, ei⟩ := rem6 c h3
    go_enter Tryz.func14, Tryz.ntmps14
    go_wp2_with fail
    go_ret
    exact ⟨⟨i, hi, rfl⟩, rfl⟩
theorem cells_at {w : World} {b : Nat} {cs : Array Value} {T : TypeId} (h : w.heap[b]? = some (.cells cs T (0, 0))) (i : Nat) : w.cell? ⟨b, i, none⟩ = cs[i]? := by
  unfold World.cell?; rw [h]; simp
theorem lg_strs {S : Nat → Prop} {w : World} {b : Nat} (hS : S b) : ∀ (l : List ByteArray) (o : Nat), (∀ i (h : i < l.length), w.cell? ⟨b, o + i, none⟩ = some (.string l[i])) → (∀ s ∈ l, s.size ≤ 4194304) → LG CStr 1 S w l b o
  | [], _, _, _ => by simp [LG]
  | s :: r, o, h, hz => by
    refine ⟨⟨hS, [.string s], ⟨rfl, hz s List.mem_cons_self⟩, fun j u hu => ?_⟩, lg_strs hS r (o + 1) (fun i hi => ?_) (fun x hx => hz x (List.mem_cons_of_mem _ hx))⟩
    · match j, hu with
      | 0, hu => cases hu; exact h 0 (by simp)
    · have := h (i + 1) (by simpa using hi)
      rw [show o + 1 + i = o + (i + 1) by omega]
      exact this
theorem sg_strs {S : Nat → Prop} {w : World} {b : Nat} {l : List ByteArray} {n cap : Nat} (hn : n = l.length) (hS : S b) (hc : l.length ≤ cap) (h6 : l.length ≤ 2097152) (h : ∀ i (h : i < l.length), w.cell? ⟨b, 0 + i, none⟩ = some (.string l[i])) (hz : ∀ s ∈ l, s.size ≤ 4194304) : SG CStr 1 S w (.slice (some ⟨b, 0, none⟩) n cap) l := by
  subst hn
  exact ⟨_, cap, rfl, ⟨hc, h6⟩, fun _ => ⟨b, 0, rfl, lg_strs hS l 0 h hz⟩⟩
theorem pg_sg {S : Nat → Prop} {w : World} {g c : Nat} {T T' : TypeId} (hg : S g) (hc : S c)
    (h : w.heap[g]? = some (.cells #[.int .i64 (-1), .string ⟨#[104, 116, 109, 108]⟩, .string ⟨#[]⟩, .slice none 0 0, .slice none 0 0, .int .i64 0, .string ⟨#[112]⟩, .string ⟨#[97]⟩, .slice (some ⟨c, 0, none⟩) 1 1, .slice none 0 0, .int .i64 1, .string ⟨#[98]⟩, .string ⟨#[]⟩, .slice none 0 0, .slice none 0 0] T (0, 0)))
    (h' : w.heap[c]? = some (.cells #[.string ⟨#[120]⟩] T' (0, 0))) : SG CEl 5 S w (.slice (some ⟨g, 0, none⟩) 3 3) pgD := by
  have hx : SG CStr 1 S w (.slice (some ⟨c, 0, none⟩) 1 1) [bz [120]] := sg_strs (n := 1) rfl hc (by decide) (by decide) (fun i hi => by
    obtain rfl : i = 0 := by simp at hi; omega
    rw [cells_at h']; rfl) (fun s hs => by rw [List.mem_singleton.1 hs]; decide)
  have cell : ∀ i, w.cell? ⟨g, i, none⟩ = _ := fun i => cells_at h i
  have five : ∀ (o : Nat) (x0 x1 x2 x3 x4 : Value), w.cell? ⟨g, o, none⟩ = some x0 → w.cell? ⟨g, o + 1, none⟩ = some x1 → w.cell? ⟨g, o + 2, none⟩ = some x2 → w.cell? ⟨g, o + 3, none⟩ = some x3 → w.cell? ⟨g, o + 4, none⟩ = some x4 → ∀ j u, [x0, x1, x2, x3, x4][j]? = some u → w.cell? ⟨g, o + j, none⟩ = some u := by
    intro o x0 x1 x2 x3 x4 h0 h1 h2 h3 h4 j u hu
    match j, hu with
    | 0, hu => cases hu; exact h0
    | 1, hu => cases hu; exact h1
    | 2, hu => cases hu; exact h2
    | 3, hu => cases hu; exact h3
    | 4, hu => cases hu; exact h4
    | j + 5, hu => simp at hu
  refine ⟨_, 3, rfl, by decide, fun _ => ⟨g, 0, rfl, ?_⟩⟩
  refine ⟨⟨hg, _, ⟨.slice none 0 0, .slice none 0 0, rfl, SG.none_any _ _ _ _ _ _, SG.none_any _ _ _ _ _ _, by decide, by decide, by decide, by decide⟩, five 0 _ _ _ _ _ ?_ ?_ ?_ ?_ ?_⟩,
    ⟨hg, _, ⟨.slice (some ⟨c, 0, none⟩) 1 1, .slice none 0 0, rfl, hx, SG.none_any _ _ _ _ _ _, by decide, by decide, by decide, by decide⟩, five 5 _ _ _ _ _ ?_ ?_ ?_ ?_ ?_⟩,
    ⟨hg, _, ⟨.slice none 0 0, .slice none 0 0, rfl, SG.none_any _ _ _ _ _ _, SG.none_any _ _ _ _ _ _, by decide, by decide, by decide, by decide⟩, five 10 _ _ _ _ _ ?_ ?_ ?_ ?_ ?_⟩, trivial⟩
  all_goals (rw [cell]; rfl)
theorem own_next {w w' : World} {base : Nat} {e : TypeId} {size : Nat} {v : Value} {n : Nat} {xs : List Value} (h : w.ownsRow base e size v n xs) (hb : Below w.heap.size w w') : w'.ownsRow base e size v n xs := by
  refine ⟨h.1, ?_⟩
  rcases h.2 with hn | ⟨g, cap, cur, rfl, hbg, hgg, rest⟩
  · exact .inl hn
  · refine .inr ⟨g, cap, cur, rfl, hbg, ?_, rest⟩
    rw [hb.block g (Array.getElem?_eq_some_iff.1 hgg).1]
    exact hgg
theorem row_own {w : World} {base b : Nat} {T : TypeId} {n : Nat} (l : List ByteArray) (hn : n = l.length) (h : w.heap[b]? = some (.cells (l.map Value.string).toArray T (0, 0))) (hb : base ≤ b) (hl : n ≤ 100) : w.ownsRow base T 1 (.slice (some ⟨b, 0, none⟩) n n) n (l.map Value.string) := by
  subst hn
  exact ⟨by simp, .inr ⟨b, _, _, rfl, hb, h, Nat.le_refl _, by unfold maxLen; omega, by simp, by simp [List.take_of_length_le]⟩⟩
theorem own_snoc {w : World} {base n : Nat} {T : TypeId} {v : Value} {l : List ByteArray} {x : ByteArray} (h : w.ownsRow base T 1 v n (l.map Value.string ++ [.string x])) : w.ownsRow base T 1 v n ((l ++ [x]).map Value.string) := by
  rw [List.map_append]; exact h
theorem own_sgS {w : World} {base n : Nat} {T : TypeId} {v : Value} {l : List ByteArray} (h : w.ownsRow base T 1 v n (l.map Value.string)) (hn : n = l.length) (h1 : 1 ≤ n) (hl : n ≤ 100) (hz : ∀ s ∈ l, s.size ≤ 4194304) : SG CStr 1 (fun b => b < w.heap.size) w v l := by
  subst hn
  have hc := fun g => h.cells (g := g)
  have hlt := h.lt
  rcases h.2 with ⟨rfl, hn⟩ | ⟨g, cap, cur, rfl, hbg, hg, hnc, hrest⟩
  · omega
  · exact sg_strs rfl (hlt g rfl).2 hnc (by omega) (fun i hi => by
      have := hc g rfl i (.string l[i]) (by rw [List.getElem?_map, List.getElem?_eq_getElem hi]; rfl)
      rwa [Addr.add_lit] at this) hz
theorem cell_next {w w' : World} {a : Addr} {v : Value} (h : w.cell? a = some v) (hb : Below w.heap.size w w') : w'.cell? a = some v :=
  (World.cell?_of_block (hb.block _ (World.block_lt_of_cell? w a h))).trans h
def PgO (bs N : Nat) (w : World) (pv : Value) : Prop := SG CEl 5 (fun b => bs < b ∧ b < N) w pv pgD
theorem PgO.next {bs N B : Nat} {w w' : World} {pv : Value} (h : PgO bs N w pv) (hb : Below B w w') (hN : N ≤ B) : PgO bs N w' pv :=
  SG.keep CEl.fair h (fun _ h => h) fun g hg => hb.block g (Nat.lt_of_lt_of_le hg.2 hN)
theorem PgO.grown {bs N : Nat} {w w' : World} {pv : Value} (h : PgO bs N w pv) (hg : w.grownBy w' (some bs)) (hN : N ≤ w.heap.size) : PgO bs N w' pv :=
  SG.keep CEl.fair h (fun _ h => h) fun g hr => hg.block g (Nat.lt_of_lt_of_le hr.2 hN) (fun e => by cases e; exact Nat.lt_irrefl _ hr.1)
theorem Computed_o {w : World} {bs N base n : Nat} {T : TypeId} {pv sv : Value} {sh : List ByteArray} {e : Nat} {ei : Int} {pr ans : ByteArray} (hp : PgO bs N w pv) (hB : N ≤ w.heap.size) (hs : w.ownsRow base T 1 sv n (sh.map Value.string)) (hn : n = sh.length) (hn1 : 1 ≤ n) (hn4 : n ≤ 4) (hl : Lit w) (he : e < 3) (hei : ei = (e : Int)) (hpr : pr.size ≤ 100) (hk : okShb sh = true) (ha : comW pgD (winF pgD sh) ei (propOf pr) = ans) (hR : ∀ f, ReadOK f) :
    Calls Tryz.prog 15 #[pv, sv, .int .i64 ei, .string pr] w fun ex w' => ex = .returned (.tuple #[.string ans, .int .i64 0]) ∧ Below w.heap.size w w' := by
  subst hei
  subst ha
  exact Computed_k w.heap.size pgD pv sh sv e pr w (SG.keep CEl.fair hp (fun _ h => Nat.lt_of_lt_of_le h.2 hB) fun _ _ => rfl) (own_sgS hs hn hn1 (by omega) (fun s hm => by have := ((okSh_of hk).1 s hm).1; omega)) (Nat.le_refl _) hl (by kernel_rfl) he (by omega) hpr hk hR
theorem chk_split {i k : Nat} {im im2 ap : Bool} (h : chkO i k im im2 ap = true) : okShb (shO i k im im2 ap) = true ∧ okShb [(shO i k im im2 ap).headD nob, belO] = true ∧ okShb (shO i k im im2 ap ++ [unsO]) = true ∧
    comW pgD (winF pgD (shO i k im im2 ap)) 1 (propOf nCOLOR) = wantO i k im im2 ∧ comW pgD (winF pgD (shO i k im im2 ap)) 1 (propOf nWidth) = nob ∧
    comW pgD (winF pgD [(shO i k im im2 ap).headD nob, belO]) 2 (propOf nWidth) = bz [49, 112, 120] ∧ comW pgD (winF pgD (shO i k im im2 ap ++ [unsO])) 2 (propOf nColor) = wantO i k im im2 := by
  unfold chkO beqB at h
  simp only [Bool.and_eq_true, decide_eq_true_eq] at h
  obtain ⟨⟨⟨⟨⟨⟨a, b⟩, c⟩, d⟩, e⟩, f⟩, g⟩ := h
  exact ⟨a, b, c, d, e, f, g⟩
theorem one_of {w w1 : World} {o0 : Obj} (h : w.alloc o0 = w1) : w1.heap[w.heap.size]? = some o0 ∧ Below w.heap.size w w1 := by
  subst h
  exact ⟨heap_alloc_new w _, (Below.refl _ _).alloc (Nat.le_refl _) _⟩
theorem three_of {w w1 : World} {o0 o1 o2 : Obj} (h : ((w.alloc o0).alloc o1).alloc o2 = w1) : w1.heap[w.heap.size]? = some o0 ∧ w1.heap[w.heap.size + 1]? = some o1 ∧ w1.heap[w.heap.size + 1 + 1]? = some o2 ∧ Below w.heap.size w w1 := by
  subst h
  refine ⟨?_, ?_, ?_, (((Below.refl _ _).alloc (Nat.le_refl _) _).alloc (by simp) _).alloc (by simp; omega) _⟩
  · rw [Below.heap_alloc _ _ _ (by simp; omega), Below.heap_alloc _ _ _ (by simp)]; exact heap_alloc_new w _
  · rw [Below.heap_alloc _ _ _ (by simp)]
    have := heap_alloc_new (w.alloc o0) o1
    simpa using this
  · have := heap_alloc_new ((w.alloc o0).alloc o1) o2
    simpa using this
theorem four_of {w w1 : World} {o0 o1 o2 o3 : Obj} (h : (((w.alloc o0).alloc o1).alloc o2).alloc o3 = w1) : w1.heap[w.heap.size]? = some o0 ∧ w1.heap[w.heap.size + 1]? = some o1 ∧ w1.heap[w.heap.size + 1 + 1]? = some o2 ∧ w1.heap[w.heap.size + 1 + 1 + 1]? = some o3 ∧ Below w.heap.size w w1 := by
  subst h
  refine ⟨?_, ?_, ?_, ?_, ((((Below.refl _ _).alloc (Nat.le_refl _) _).alloc (by simp) _).alloc (by simp; omega) _).alloc (by simp; omega) _⟩
  · rw [Below.heap_alloc _ _ _ (by simp; omega), Below.heap_alloc _ _ _ (by simp; omega), Below.heap_alloc _ _ _ (by simp)]; exact heap_alloc_new w _
  · rw [Below.heap_alloc _ _ _ (by simp), Below.heap_alloc _ _ _ (by simp)]
    have := heap_alloc_new (w.alloc o0) o1
    simpa using this
  · rw [Below.heap_alloc _ _ _ (by simp)]
    have := heap_alloc_new ((w.alloc o0).alloc o1) o2
    simpa using this
  · have := heap_alloc_new (((w.alloc o0).alloc o1).alloc o2) o3
    simpa using this
theorem sel_cells {w : World} {b : Nat} {T : TypeId} (h : w.heap[b]? = some (.cells #[.string ⟨#[112]⟩, .string ⟨#[46, 120]⟩, .string ⟨#[35, 97]⟩, .string ⟨#[112, 46, 120]⟩, .string ⟨#[104, 116, 109, 108, 32, 112]⟩, .string ⟨#[42]⟩] T (0, 0))) : ∀ i, i < 6 → w.cell? ⟨b, i, none⟩ = some (.string (selO i)) := by
  intro i hi
  rw [cells_at h]
  rcases (show i = 0 ∨ i = 1 ∨ i = 2 ∨ i = 3 ∨ i = 4 ∨ i = 5 by omega) with rfl | rfl | rfl | rfl | rfl | rfl <;> rfl
theorem wt_cells {w : World} {b : Nat} {T : TypeId} (h : w.heap[b]? = some (.cells #[.int .i64 1, .int .i64 10, .int .i64 100, .int .i64 11, .int .i64 2, .int .i64 0] T (0, 0))) : ∀ i, i < 6 → w.cell? ⟨b, i, none⟩ = some (.int .i64 (wtO i)) := by
  intro i hi
  rw [cells_at h]
  rcases (show i = 0 ∨ i = 1 ∨ i = 2 ∨ i = 3 ∨ i = 4 ∨ i = 5 by omega) with rfl | rfl | rfl | rfl | rfl | rfl <;> rfl
theorem selO_size (i : Nat) : (selO i).size ≤ 6 := by
  unfold selO
  split <;> decide
end Go.Proofs.YtlliliddljkbfaaGreat
