/-
  A walk in which the one goroutine also sends and receives where nothing waits: laws over any program.
-/
import Derived.Conc.LoneCalls
import Derived.Deep.LoopGhost
import Derived.Test.YtlliliddljkbfaaFwd
namespace Go.Proofs.Ytlliliddljkbfaa
open Go Go.Conc Go.RowKit

/-- As the kit's 'Code.wp', of frames that run in their own time (no early call). -/
def NWp (P : Program) (c : Code) (Q : Exit → Act → World → Prop) (a : Act) (w : World) : Prop :=
  ∀ (b : Frame) (k : List Item) (cs : List Frame), b.kind ≠ .early → ∃ e a' w', Q e a' w' ∧ Arrives P (lone (b.at a (.code c :: k)) cs w) b k cs e a' w'

section
variable {P : Program} {Q : Exit → Act → World → Prop} {a : Act} {w : World}

theorem nwp_of_wp {c : Code} (h : c.wp P Q a w) : NWp P c Q a w := fun b k cs _ => h b k cs

theorem nwp_seq {x y : Code} (h : NWp P x (Exit.then (NWp P y Q) Q) a w) : NWp P (.seq x y) Q a w := by
  intro b k cs hb
  obtain ⟨e, a1, w1, hq, harr⟩ := h b (.code y :: k) cs hb
  have s0 : Steps P (lone (b.at a (.code (.seq x y) :: k)) cs w) (lone (b.at a (.code x :: .code y :: k)) cs w) := .one step_seq
  cases e with
  | normal =>
    obtain ⟨e2, a2, w2, hq2, harr2⟩ := hq b k cs hb
    exact ⟨e2, a2, w2, hq2, .of_steps (s0.trans harr) harr2⟩
  | exit id => exact ⟨_, a1, w1, hq, .of_steps s0 (.pass (x := .code y) rfl (fun _ _ => .inl (by simp)) harr)⟩
  | goto l => exact ⟨_, a1, w1, hq, .of_steps s0 (.pass (x := .code y) rfl (fun _ _ => .inl (by simp)) harr)⟩
  | ret => exact ⟨_, a1, w1, hq, .of_steps s0 (.pass (x := .code y) rfl (fun _ _ => .inl (by simp)) harr)⟩
  | panic ch => exact ⟨_, a1, w1, hq, .of_steps s0 (.pass (x := .code y) rfl (fun _ _ => .inl (by simp)) harr)⟩
  | outgrown => exact ⟨_, a1, w1, hq, .of_steps s0 (.pass (x := .code y) rfl (fun _ _ => .inl (by simp)) harr)⟩

theorem nwp_cond {c : Operand} {x y : Code} {t : Bool} (hc : a.eval c = .bool t) (h : NWp P (if t then x else y) Q a w) : NWp P (.cond c x y) Q a w := by
  intro b k cs hb
  obtain ⟨e, a1, w1, hq, harr⟩ := h b k cs hb
  refine ⟨e, a1, w1, hq, .of_steps (.one (step_cond hc)) ?_⟩
  cases t <;> exact harr

theorem nwp_block {id : Nat} {c : Code} (h : NWp P c (Exit.inBlock id Q) a w) : NWp P (.block id c) Q a w := by
  intro b k cs hb
  obtain ⟨e, a1, w1, hq, harr⟩ := h b (.inBlock id :: k) cs hb
  have s0 : Steps P (lone (b.at a (.code (.block id c) :: k)) cs w) (lone (b.at a (.code c :: .inBlock id :: k)) cs w) := .one step_block
  cases e with
  | normal => exact ⟨.normal, a1, w1, hq, (s0.trans harr).trans (.one step_inBlock)⟩
  | exit j =>
    by_cases hj : j = id
    · subst hj
      have hq' : Q .normal a1 w1 := by simpa [Exit.inBlock] using hq
      exact ⟨.normal, a1, w1, hq', s0.trans (harr k (by simp [exitTo]))⟩
    · have hq' : Q (.exit j) a1 w1 := by simpa [Exit.inBlock, hj] using hq
      refine ⟨.exit j, a1, w1, hq', fun k' hk => s0.trans (harr k' ?_)⟩
      have hj' : ¬ id = j := fun e => hj e.symm
      simp [exitTo, hj', hk]
  | goto l => exact ⟨.goto l, a1, w1, hq, fun k' hk => s0.trans (harr k' (by simpa [gotoIn] using hk))⟩
  | ret => exact ⟨.ret, a1, w1, hq, .of_steps s0 harr⟩
  | panic ch => exact ⟨.panic ch, a1, w1, hq, .of_steps s0 harr⟩
  | outgrown => exact ⟨.outgrown, a1, w1, hq, .of_steps (b := b) (k := k) (cs := cs) (e := .outgrown) s0 harr⟩

/-- A loop: an invariant that bears a number, which every round lowers. -/
theorem nwp_loop {c : Code} (I : Nat → Act → World → Prop) (n : Nat) (h0 : I n a w)
    (round : ∀ n a w, I n a w → NWp P c (Exit.then (fun a' w' => ∃ n', n' < n ∧ I n' a' w') Q) a w) : NWp P (.loop c) Q a w := by
  intro b k cs hb
  have key : ∀ n a w, I n a w → ∃ e a' w', Q e a' w' ∧ Arrives P (lone (b.at a (.code c :: .inLoop c :: k)) cs w) b k cs e a' w' := by
    intro n
    induction n using Nat.strongRecOn with
    | _ n ih =>
      intro a w hI
      obtain ⟨e, a1, w1, hq, harr⟩ := round n a w hI b (.inLoop c :: k) cs hb
      cases e with
      | normal =>
        obtain ⟨n', hlt, hI'⟩ := hq
        obtain ⟨e2, a2, w2, hq2, harr2⟩ := ih n' hlt a1 w1 hI'
        exact ⟨e2, a2, w2, hq2, .of_steps (Steps.trans harr (.one step_inLoop)) harr2⟩
      | exit id => exact ⟨_, a1, w1, hq, .pass (x := .inLoop c) rfl (fun _ _ => .inl (by simp)) harr⟩
      | goto l => exact ⟨_, a1, w1, hq, .pass (x := .inLoop c) rfl (fun _ _ => .inl (by simp)) harr⟩
      | ret => exact ⟨_, a1, w1, hq, .pass (x := .inLoop c) rfl (fun _ _ => .inl (by simp)) harr⟩
      | panic ch => exact ⟨_, a1, w1, hq, .pass (x := .inLoop c) rfl (fun _ _ => .inl (by simp)) harr⟩
      | outgrown => exact ⟨_, a1, w1, hq, .pass (x := .inLoop c) rfl (fun _ _ => .inl (by simp)) harr⟩
  obtain ⟨e, a', w', hq, harr⟩ := key n a w h0
  exact ⟨e, a', w', hq, .of_steps (.one step_loop) harr⟩

/-- A scope out of which the run jumps forward; behind the label nothing is sent. -/
theorem nwp_scope_fwd {c : Code} (h : ∀ Q' : Exit → Act → World → Prop, Fwd P c Q Q' → NWp P c Q' a w) : NWp P (.scope c) Q a w := by
  have h' := h (fwdQ P c Q) ⟨fun l rest a w hf hr => ⟨rest, hf, hr⟩, fun a w hq => hq, fun a w hq => hq, fun e a w hq => by cases e <;> first | exact hq | exact hq.elim⟩
  intro b k cs hb
  obtain ⟨e, a1, w1, hq, harr⟩ := h' b (.inScope c :: k) cs hb
  cases e with
  | normal => exact ⟨.normal, a1, w1, hq, .head step_scope (Steps.trans harr (.one step_inScope))⟩
  | exit id => exact ⟨.exit id, a1, w1, hq, fun k' hk => .head step_scope (harr k' (by simp [exitTo, hk]))⟩
  | goto l =>
    obtain ⟨rest, hf, hr⟩ := hq
    have hg : gotoIn l (.inScope c :: k) = some (.code rest :: .inScope c :: k) := by simp [gotoIn, hf]
    obtain ⟨e2, a2, w2, hq2, harr2⟩ := hr b (.inScope c :: k) cs
    have hs := Steps.head (P := P) step_scope (harr _ hg)
    cases e2 with
    | normal => exact ⟨.normal, a2, w2, hq2, Steps.trans hs (Steps.trans harr2 (.one step_inScope))⟩
    | exit id => exact ⟨.exit id, a2, w2, hq2, fun k' hk => Steps.trans hs (harr2 k' (by simp [exitTo, hk]))⟩
    | goto l' => exact hq2.elim
    | ret => exact ⟨_, a2, w2, hq2, .of_steps hs harr2⟩
    | panic ch => exact ⟨_, a2, w2, hq2, .of_steps hs harr2⟩
    | outgrown => exact ⟨_, a2, w2, hq2, .of_steps hs harr2⟩
  | ret => exact ⟨_, a1, w1, hq, .of_steps (.one step_scope) harr⟩
  | panic ch => exact ⟨_, a1, w1, hq, .of_steps (.one step_scope) harr⟩
  | outgrown => exact ⟨_, a1, w1, hq, .of_steps (.one step_scope) harr⟩

theorem calls_of_nwp {f : FuncId} {fn : Func} {c : Code} {args : Array Value} {R : Ending → World → Prop}
    (hf : P.funcs[f]? = some fn) (hb : fn.body = some c)
    (h : NWp P c (bodyPost P fn R) { tmps := args ++ Array.replicate (fn.ntmps - args.size) undef, defers := [] } w) : Calls P f args w R := by
  intro cs
  let b : Frame := { (default : Frame) with fn := f, kind := .normal }
  have henter : Frame.enter P f args .normal = b.at { tmps := args ++ Array.replicate (fn.ntmps - args.size) undef, defers := [] } [.code c] := by
    simp [Frame.enter, Frame.at, hf, hb, b]
  obtain ⟨e, a', w', hq, harr⟩ := h b [] cs (by simp [b])
  rw [← henter] at harr
  cases e with
  | normal =>
    obtain ⟨hd, v, hr, hR⟩ := hq
    exact ⟨.returned v, w', _, hR, Steps.trans harr (.one step_end), rfl, rfl, hd, rfl, fn, hf, hr⟩
  | ret =>
    obtain ⟨hd, v, hr, hR⟩ := hq
    obtain ⟨todo, hs⟩ := harr
    exact ⟨.returned v, w', _, hR, hs, rfl, rfl, hd, rfl, fn, hf, hr⟩
  | panic chain =>
    obtain ⟨hd, hR⟩ := hq
    obtain ⟨todo, hs⟩ := harr
    exact ⟨.panicked chain, w', _, hR, hs, rfl, rfl, hd, fn, hf⟩
  | exit id => exact hq.elim
  | goto l => exact hq.elim
  | outgrown => exact ⟨.outgrown, w', b, hq, harr.resolve_left (by simp [b]), rfl, trivial⟩

/-- What is left of a region's operations. -/
def Left (P : Program) (ops : Array Oper) (Q : Exit → Act → World → Prop) (l : List Nat) (a : Act) (w : World) : Prop :=
  ∀ (b : Frame) (k : List Item) (cs : List Frame), b.kind ≠ .early → ∃ e a' w', Q e a' w' ∧ Arrives P (lone (b.at a (.inRegion ops l :: k)) cs w) b k cs e a' w'

variable {ops : Array Oper} {i : Nat} {rest : List Nat} {o : Oper}
theorem nwp_region {id : Nat} (h : Left P ops Q (List.range ops.size) a w) : NWp P (.region id ops false) Q a w := by
  intro b k cs hb
  obtain ⟨e, a1, w1, hq, harr⟩ := h b k cs hb
  exact ⟨e, a1, w1, hq, .of_steps (.one step_region) harr⟩
theorem left_nil (h : Q .normal a w) : Left P ops Q [] a w := fun _ _ _ _ => ⟨.normal, a, w, h, .one step_region_end⟩
theorem left_value {v : Value} {w' : World} (ho : ops[i]? = some o) (hw : Region.wanted o (yielded ops a.tmps) = true) (hr : (execOp a.eval o).run P w = .ok (.value v) w')
    (h : Left P ops Q rest (a.put o.dst v) w') : Left P ops Q (i :: rest) a w := by
  intro b k cs hb
  obtain ⟨e, a1, w1, hq, harr⟩ := h b k cs hb
  have hg := stepG_op (P := P) (b := b) (k := k) (cs := cs) (w := w) (rest := rest) ho hw
  have hfin : (b.at a (.inRegion ops (i :: rest) :: k)).finish v = b.at (a.put o.dst v) (.inRegion ops rest :: k) := by rw [Frame.finish_at, ho]; rfl
  refine ⟨e, a1, w1, hq, .of_steps (.one (step_lone_go ?_)) harr⟩
  rw [hg, ← hfin]; simp [stepG.apply, hr]
theorem left_call {f : FuncId} {args : Array Value} {w' : World} {S : Value → World → Prop} (ho : ops[i]? = some o) (hw : Region.wanted o (yielded ops a.tmps) = true) (hr : (execOp a.eval o).run P w = .ok (.enter f args) w')
    (hc : Calls P f args w' fun e w2 => ∃ v, e = .returned v ∧ S v w2)
    (h : ∀ v w2, S v w2 → Left P ops Q rest (a.put o.dst v) w2) : Left P ops Q (i :: rest) a w := by
  intro b k cs hb
  obtain ⟨e, w2, fr, ⟨v, rfl, hS⟩, hsteps, _, hleave⟩ := hc (b.at a (.inRegion ops (i :: rest) :: k) :: cs)
  obtain ⟨e, a1, w1, hq, harr⟩ := h v w2 hS b k cs hb
  have hg := stepG_op (P := P) (b := b) (k := k) (cs := cs) (w := w) (rest := rest) ho hw
  have hfin : (b.at a (.inRegion ops (i :: rest) :: k)).finish v = b.at (a.put o.dst v) (.inRegion ops rest :: k) := by rw [Frame.finish_at, ho]; rfl
  have henter : step P (lone (b.at a (.inRegion ops (i :: rest) :: k)) cs w) = .next (lone (Frame.enter P f args .normal) (b.at a (.inRegion ops (i :: rest) :: k) :: cs) w') :=
    step_lone_go (by rw [hg]; simp [stepG.apply, hr, Frame.at])
  refine ⟨e, a1, w1, hq, .of_steps (.head henter (Steps.trans hsteps (.one ?_))) harr⟩
  rw [← hfin]; exact step_leave_returned hleave
theorem left_send {c cap s r : Nat} {buf : Array Value} {v z' : Value} {tm : Bool} {w1 : World} (ho : ops[i]? = some o) (hw : Region.wanted o (yielded ops a.tmps) = true)
    (hr : (execOp a.eval o).run P w = .ok (.comm #[scase c v z'] true .send) w1) (hc : w1.heap[c]? = some (.chan cap buf false s r tm)) (hroom : buf.size < cap)
    (h : Left P ops Q rest (a.put o.dst undef) (w1.setChan c cap (buf.push v) false (s + 1) r tm)) : Left P ops Q (i :: rest) a w := by
  intro b k cs hb
  obtain ⟨e, a1, w2, hq, harr⟩ := h b k cs hb
  have hfin : (b.at a (.inRegion ops (i :: rest) :: k)).finish undef = b.at (a.put o.dst undef) (.inRegion ops rest :: k) := by rw [Frame.finish_at, ho]; rfl
  have hst := step_lone_send_room (P := P) (cs := cs) (stepG_comm (main := true) (cs := cs) (k := k) (rest := rest) ho hw hb hr) hc hroom
  rw [hfin] at hst
  exact ⟨e, a1, w2, hq, .of_steps (.one hst) harr⟩
theorem left_recv {c cap s r : Nat} {buf : Array Value} {z : Value} {tm closed : Bool} {w1 : World} (ho : ops[i]? = some o) (hw : Region.wanted o (yielded ops a.tmps) = true)
    (hr : (execOp a.eval o).run P w = .ok (.comm #[rcase c z] true (.recv true)) w1) (hc : w1.heap[c]? = some (.chan cap buf closed s r tm)) (hsome : 0 < buf.size)
    (h : Left P ops Q rest (a.put o.dst (.tuple #[buf.getD 0 undef, .bool true])) (w1.setChan c cap (buf.extract 1 buf.size) closed s (r + 1) tm)) : Left P ops Q (i :: rest) a w := by
  intro b k cs hb
  obtain ⟨e, a1, w2, hq, harr⟩ := h b k cs hb
  have hfin : (b.at a (.inRegion ops (i :: rest) :: k)).finish (got true (buf.getD 0 undef) true) = b.at (a.put o.dst (.tuple #[buf.getD 0 undef, .bool true])) (.inRegion ops rest :: k) := by rw [Frame.finish_at, ho]; rfl
  have hst := step_lone_recv_buf (P := P) (cs := cs) true (stepG_comm (main := true) (cs := cs) (k := k) (rest := rest) ho hw hb hr) hc hsome
  rw [hfin] at hst
  exact ⟨e, a1, w2, hq, .of_steps (.one hst) harr⟩
theorem left_recv_shut {c cap s r : Nat} {z : Value} {tm : Bool} {w1 : World} (ho : ops[i]? = some o) (hw : Region.wanted o (yielded ops a.tmps) = true)
    (hr : (execOp a.eval o).run P w = .ok (.comm #[rcase c z] true (.recv true)) w1) (hc : w1.heap[c]? = some (.chan cap #[] true s r tm))
    (h : Left P ops Q rest (a.put o.dst (.tuple #[z, .bool false])) w1) : Left P ops Q (i :: rest) a w := by
  intro b k cs hb
  obtain ⟨e, a1, w2, hq, harr⟩ := h b k cs hb
  have hfin : (b.at a (.inRegion ops (i :: rest) :: k)).finish (got true z false) = b.at (a.put o.dst (.tuple #[z, .bool false])) (.inRegion ops rest :: k) := by rw [Frame.finish_at, ho]; rfl
  have hst := step_lone_recv_shut (P := P) (cs := cs) true (stepG_comm (main := true) (cs := cs) (k := k) (rest := rest) ho hw hb hr) hc
  rw [hfin] at hst
  exact ⟨e, a1, w2, hq, .of_steps (.one hst) harr⟩
end
end Go.Proofs.Ytlliliddljkbfaa
