import Derived.Test.YtlliliddljkbfaaGreatC3
import Derived.BigRegion
import Derived.LoopN
import Derived.RegionTactic
import Derived.Shelf.Small.Wraps
import Derived.Shelf.Strconv.Itoa0
import Derived.Shelf.Strconv.Itoa1
import Derived.Shelf.LaysM
import Derived.Shelf.Strconv.Itoa2
import Derived.Shelf.Strconv.Itoa3
import Derived.Shelf.Strings.Search1
import Derived.Shelf.Strings.Search2
import Derived.Shelf.Strings.Search3
import Derived.Shelf.Strings.Shaped
import Derived.Shelf.Strings.Prefix
import Derived.Shelf.Strings.Fields
import Derived.Shelf.Strings.SplitShaped
import Derived.Shelf.Unicode.Latin
import Derived.Shelf.Unicode.Is16White
import Derived.Shelf.Unicode.IsSpaceAny
import Derived.Shelf.Unicode.Is16WhiteD
import Derived.Shelf.Unicode.IsSpaceAnyD
import Derived.Shelf.Strings.FieldsAny
import Derived.Shelf.Strings.FieldsFuncAny
import Derived.Shelf.Unicode.Is16Any
import Derived.Shelf.Unicode.Is32Any
import Derived.Shelf.Unicode.ExclAny
import Derived.Shelf.Slices.Turned
import Derived.Test.YtlliliddljkbfaaGreatProg
import Derived.Deep.QuietTactic
import Derived.BigQuiet
namespace Go.Proofs.YtlliliddljkbfaaGreat
set_option maxHeartbeats 64000000
set_option maxRecDepth 100000
open Go.RowKit Sp
def wtV (x y z : Int) : Value := .agg #[.int .i64 x, .int .i64 y, .int .i64 z]
def W3 (w : World) (b : Nat) (x y z : Int) : Prop := w.heap[b]? = some (.cells #[.int .i64 x, .int .i64 y, .int .i64 z] 177 (0, 0))
theorem W3.cs {w : World} {b : Nat} {x y z : Int} (h : W3 w b x y z) : w.cell? ⟨b, 0, none⟩ = some (.int .i64 x) ∧ w.cell? ⟨b, 1, none⟩ = some (.int .i64 y) ∧ w.cell? ⟨b, 2, none⟩ = some (.int .i64 z) := by
  have h' : w.heap[b]? = _ := h
  refine ⟨?_, ?_, ?_⟩ <;> (unfold World.cell?; rw [h']; rfl)
theorem W3.lt {w : World} {b : Nat} {x y z : Int} (h : W3 w b x y z) : b < w.heap.size := (Array.getElem?_eq_some_iff.1 h).1
theorem W3.fz {w : World} {b : Nat} {x y z : Int} (h : W3 w b x y z) (k : Nat) : w.frozen? ⟨b, k, none⟩ = false := by
  have h' : w.heap[b]? = _ := h
  unfold World.frozen?; rw [h']; simp
theorem W3.alloc {w : World} {b : Nat} {x y z : Int} (h : W3 w b x y z) (o : Obj) : W3 (w.alloc o) b x y z := by
  unfold W3; rw [Below.heap_alloc _ _ _ h.lt]; exact h
theorem W3.new (w : World) (x y z : Int) : W3 (w.alloc (.cells #[.int .i64 x, .int .i64 y, .int .i64 z] 177)) w.heap.size x y z := heap_alloc_new w _
theorem plus_c (x y z x' y' z' : Int) (w : World) (h1 : 0 ≤ x ∧ x ≤ 1000000) (h2 : 0 ≤ y ∧ y ≤ 1000000) (h3 : 0 ≤ z ∧ z ≤ 1000000) (k1 : 0 ≤ x' ∧ x' ≤ 1000000) (k2 : 0 ≤ y' ∧ y' ≤ 1000000) (k3 : 0 ≤ z' ∧ z' ≤ 1000000) :
    Calls Tryz.prog 225 #[wtV x y z, wtV x' y' z'] w fun ex w' => ex = .returned (wtV (x + x') (y + y') (z + z')) ∧ Below w.heap.size w w' := by
  unfold wtV
  have A0 : Hid (W3 (((w.alloc (.cells #[.int .i64 x, .int .i64 y, .int .i64 z] 177)).alloc (.cells #[.int .i64 x', .int .i64 y', .int .i64 z'] 177)).alloc (.cells #[.int .i64 0, .int .i64 0, .int .i64 0] 177)) w.heap.size x y z) := ((W3.new w x y z).alloc _).alloc _
  have A1 : Hid (W3 (((w.alloc (.cells #[.int .i64 x, .int .i64 y, .int .i64 z] 177)).alloc (.cells #[.int .i64 x', .int .i64 y', .int .i64 z'] 177)).alloc (.cells #[.int .i64 0, .int .i64 0, .int .i64 0] 177)) (w.heap.size + 1) x' y' z') := by
    have := (W3.new (w.alloc (.cells #[.int .i64 x, .int .i64 y, .int .i64 z] 177)) x' y' z').alloc (.cells #[.int .i64 0, .int .i64 0, .int .i64 0] 177)
    show W3 _ _ _ _ _
    simpa using this
  have A2 : Hid (W3 (((w.alloc (.cells #[.int .i64 x, .int .i64 y, .int .i64 z] 177)).alloc (.cells #[.int .i64 x', .int .i64 y', .int .i64 z'] 177)).alloc (.cells #[.int .i64 0, .int .i64 0, .int .i64 0] 177)) (w.heap.size + 1 + 1) 0 0 0) := by
    have h := W3.new ((w.alloc (.cells #[.int .i64 x, .int .i64 y, .int .i64 z] 177)).alloc (.cells #[.int .i64 x', .int .i64 y', .int .i64 z'] 177)) 0 0 0
    have e : ((w.alloc (.cells #[.int .i64 x, .int .i64 y, .int .i64 z] 177)).alloc (.cells #[.int .i64 x', .int .i64 y', .int .i64 z'] 177)).heap.size = w.heap.size + 1 + 1 := by simp
    rw [e] at h
    exact h
  have B0 : Hid (Below w.heap.size w (((w.alloc (.cells #[.int .i64 x, .int .i64 y, .int .i64 z] 177)).alloc (.cells #[.int .i64 x', .int .i64 y', .int .i64 z'] 177)).alloc (.cells #[.int .i64 0, .int .i64 0, .int .i64 0] 177))) := (((Below.refl _ _).alloc (Nat.le_refl _) _).alloc (by simp) _).alloc (by simp; omega) _
  go_enter Tryz.func225, Tryz.ntmps225
  go_wp2_with fail
  generalize ((w.alloc (.cells #[.int .i64 x, .int .i64 y, .int .i64 z] 177)).alloc (.cells #[.int .i64 x', .int .i64 y', .int .i64 z'] 177)).alloc (.cells #[.int .i64 0, .int .i64 0, .int .i64 0] 177) = w3 at *
  obtain ⟨b, Hb⟩ : ∃ b, Hid (w.heap.size = b) := ⟨_, hid rfl⟩
  rw [Hb.out] at A0 A1 A2 B0
  rw [Hb.out]
  obtain ⟨a0, a1, a2⟩ := A0.out.cs
  obtain ⟨c0, c1, c2⟩ := A1.out.cs
  obtain ⟨r0, r1, r2⟩ := A2.out.cs
  have f0 := A0.out.fz 0
  have f1 := A0.out.fz 1
  have f2 := A0.out.fz 2
  have g0 := A2.out.fz 0
  have g1 := A2.out.fz 1
  have g2 := A2.out.fz 2
  refine wp_loop_rounds 4 ?_
  rw [rounds_succ]
  go_wp2_with fail
  go_region
  go_wp2_with fail
  rw [rounds_succ]
  go_wp2_with fail
  go_region
  go_wp2_with fail
  rw [rounds_succ]
  go_wp2_with fail
  go_region
  go_wp2_with fail
  rw [rounds_succ]
  go_wp2_with fail
  refine bodyPost_ret (v := .agg #[.int .i64 (x + x'), .int .i64 (y + y'), .int .i64 (z + z')]) (by simp [results, Tryz.results225, go_sem, r0, r1, r2]) rfl ?_
  refine ⟨rfl, ?_⟩
  rw [Hb.out]
  have e : b ≤ b + 1 + 1 := by omega
  exact ((((((B0.out.setCell (p := ⟨b, 0, none⟩) (Nat.le_refl _) _).setCell (p := ⟨b, 1, none⟩) (Nat.le_refl _) _).setCell (p := ⟨b, 2, none⟩) (Nat.le_refl _) _).setCell (p := ⟨b + 1 + 1, 0, none⟩) e _).setCell (p := ⟨b + 1 + 1, 1, none⟩) e _).setCell (p := ⟨b + 1 + 1, 2, none⟩) e _).drew.drew.drew
end Go.Proofs.YtlliliddljkbfaaGreat
namespace Go.Proofs
set_option maxHeartbeats 64000000
set_option maxRecDepth 100000
open Go.Shelf
def Tryz.lays215_ren : Go.Shelf.Ren := ⟨fun | 215 => 301 | n => n, fun | 3 => 3 | 4 => 4 | n => n, fun | n => n⟩
open Go.RowKit in
def Tryz.lays122_ren : Go.Shelf.Ren := ⟨fun | 122 => 276 | 215 => 301 | n => n, fun | 3 => 3 | 4 => 4 | n => n, fun | n => n⟩
theorem Tryz.lays122 : Go.Proofs.Lays.n122 Tryz.prog Tryz.lays122_ren := {
  mixed := by kernel_rfl
  f122 := Tryz.func276.trans (congrArg some (by kernel_rfl))
  f215 := Tryz.func301.trans (congrArg some (by kernel_rfl))
  t3 := Tryz.underlying3
  a3 := Tryz.isAgg3
  z3 := Tryz.sizeOf3
  v3 := Tryz.zeroValue3
  t4 := Tryz.underlying4
  a4 := Tryz.isAgg4
  z4 := Tryz.sizeOf4
  v4 := Tryz.zeroValue4 }
open Go.RowKit in
theorem Tryz.cmp_Compare_int (x y : Int) (w : World) :
    Calls Tryz.prog 276 #[.int .i64 x, .int .i64 y] w fun e w' => e = .returned (.int .i64 (Lib.compareInt x y)) ∧ w' = w := Any.cmp_Compare_int Tryz.lays122 x y w
def Tryz.lays129_ren : Go.Shelf.Ren := ⟨fun | 129 => 384 | n => n, fun | 53 => 101 | 3 => 3 | 4 => 4 | 46 => 331 | 5 => 5 | 9 => 9 | n => n, fun | n => n⟩
def Tryz.lays317_ren : Go.Shelf.Ren := ⟨fun | 317 => 383 | n => n, fun | 3 => 3 | 46 => 331 | n => n, fun | n => n⟩
open Go.Lib in
def Tryz.lays318_ren : Go.Shelf.Ren := ⟨fun | 318 => 385 | n => n, fun | 3 => 3 | 4 => 4 | n => n, fun | n => n⟩
open Go.Lib in
def Tryz.lays283_ren : Go.Shelf.Ren := ⟨fun | 283 => 379 | n => n, fun | 3 => 3 | 9 => 9 | 4 => 4 | n => n, fun | n => n⟩
open Go.Lib in
def Tryz.laysM284_ren : Go.Shelf.Ren := ⟨fun | 284 => 380 | 129 => 384 | 317 => 383 | 318 => 385 | n => n, fun | 53 => 101 | 3 => 3 | 212 => 396 | 0 => 0 | 4 => 4 | 46 => 331 | 5 => 5 | 9 => 9 | n => n, fun | 17 => 3 | n => n⟩
open Go.Lib in
def Tryz.lays285_ren : Go.Shelf.Ren := ⟨fun | 285 => 381 | n => n, fun | 37 => 145 | 53 => 101 | 3 => 3 | 4 => 4 | 51 => 337 | 9 => 9 | 5 => 5 | 0 => 0 | n => n, fun | n => n⟩
open Go.RowKit Go.Sort Go.Lib in
def Tryz.laysM246_ren : Go.Shelf.Ren := ⟨fun | 246 => 378 | 283 => 379 | 284 => 380 | 285 => 381 | 286 => 382 | 129 => 384 | 317 => 383 | 318 => 385 | 319 => 386 | 320 => 387 | 337 => 388 | 338 => 389 | n => n, fun | 2 => 2 | 3 => 3 | 9 => 9 | 4 => 4 | 171 => 390 | 0 => 0 | 53 => 101 | 37 => 145 | 5 => 5 | 173 => 393 | 212 => 396 | 51 => 337 | 20 => 20 | 213 => 397 | 46 => 331 | 232 => 400 | 233 => 401 | n => n, fun | 17 => 3 | 18 => 4 | 19 => 5 | n => n⟩
open Go.RowKit Go.Sort Go.Lib in
def Tryz.lays246_ren : Go.Shelf.Ren := ⟨fun | 246 => 378 | 283 => 379 | 284 => 380 | 285 => 381 | 286 => 382 | 129 => 384 | 317 => 383 | 318 => 385 | 319 => 386 | 320 => 387 | 337 => 388 | 338 => 389 | n => n, fun | 2 => 2 | 3 => 3 | 9 => 9 | 4 => 4 | 171 => 390 | 0 => 0 | 53 => 101 | 37 => 145 | 5 => 5 | 173 => 393 | 212 => 396 | 51 => 337 | 20 => 20 | 213 => 397 | 46 => 331 | 232 => 400 | 233 => 401 | n => n, fun | 17 => 3 | 18 => 4 | 19 => 5 | n => n⟩
open Go.RowKit Go.Sort Go.Lib in
def Tryz.laysM243_ren : Go.Shelf.Ren := ⟨fun | 243 => 377 | 246 => 378 | 283 => 379 | 284 => 380 | 285 => 381 | 286 => 382 | 129 => 384 | 317 => 383 | 318 => 385 | 319 => 386 | 320 => 387 | 337 => 388 | 338 => 389 | n => n, fun | 3 => 3 | 9 => 9 | 2 => 2 | 4 => 4 | 171 => 390 | 0 => 0 | 53 => 101 | 37 => 145 | 5 => 5 | 173 => 393 | 212 => 396 | 51 => 337 | 20 => 20 | 213 => 397 | 46 => 331 | 232 => 400 | 233 => 401 | n => n, fun | 17 => 3 | 18 => 4 | 19 => 5 | n => n⟩
open Go.RowKit Go.Sort Go.Lib in
def Tryz.lays243_ren : Go.Shelf.Ren := ⟨fun | 243 => 377 | 246 => 378 | 283 => 379 | 284 => 380 | 285 => 381 | 286 => 382 | 129 => 384 | 317 => 383 | 318 => 385 | 319 => 386 | 320 => 387 | 337 => 388 | 338 => 389 | n => n, fun | 3 => 3 | 9 => 9 | 2 => 2 | 4 => 4 | 171 => 390 | 0 => 0 | 53 => 101 | 37 => 145 | 5 => 5 | 173 => 393 | 212 => 396 | 51 => 337 | 20 => 20 | 213 => 397 | 46 => 331 | 232 => 400 | 233 => 401 | n => n, fun | 17 => 3 | 18 => 4 | 19 => 5 | n => n⟩
open Go.RowKit Go.Sort Go.Lib in
def Tryz.laysM171_ren : Go.Shelf.Ren := ⟨fun | 171 => 376 | 243 => 377 | 246 => 378 | 283 => 379 | 284 => 380 | 285 => 381 | 286 => 382 | 129 => 384 | 317 => 383 | 318 => 385 | 319 => 386 | 320 => 387 | 337 => 388 | 338 => 389 | n => n, fun | 3 => 3 | 9 => 9 | 2 => 2 | 4 => 4 | 171 => 390 | 0 => 0 | 53 => 101 | 37 => 145 | 5 => 5 | 173 => 393 | 212 => 396 | 51 => 337 | 20 => 20 | 213 => 397 | 46 => 331 | 232 => 400 | 233 => 401 | n => n, fun | 17 => 3 | 18 => 4 | 19 => 5 | n => n⟩
open Go.RowKit Go.Sort Go.Lib in
def Tryz.lays171_ren : Go.Shelf.Ren := ⟨fun | 171 => 376 | 243 => 377 | 246 => 378 | 283 => 379 | 284 => 380 | 285 => 381 | 286 => 382 | 129 => 384 | 317 => 383 | 318 => 385 | 319 => 386 | 320 => 387 | 337 => 388 | 338 => 389 | n => n, fun | 3 => 3 | 9 => 9 | 2 => 2 | 4 => 4 | 171 => 390 | 0 => 0 | 53 => 101 | 37 => 145 | 5 => 5 | 173 => 393 | 212 => 396 | 51 => 337 | 20 => 20 | 213 => 397 | 46 => 331 | 232 => 400 | 233 => 401 | n => n, fun | 17 => 3 | 18 => 4 | 19 => 5 | n => n⟩
open Go.RowKit Go.Sort Go.Lib in
def Tryz.lays217_ren : Go.Shelf.Ren := ⟨fun | 217 => 283 | 266 => 302 | n => n, fun | 9 => 9 | 5 => 5 | 3 => 3 | n => n, fun | n => n⟩
open Go.RowKit Go.Lib in
def Tryz.lays224_ren : Go.Shelf.Ren := ⟨fun | 224 => 285 | n => n, fun | 3 => 3 | n => n, fun | n => n⟩
open Go.RowKit Go.Lib in
def Tryz.lays314_ren : Go.Shelf.Ren := ⟨fun | 314 => 303 | n => n, fun | 9 => 9 | 51 => 337 | 3 => 3 | 4 => 4 | 5 => 5 | 46 => 331 | n => n, fun | n => n⟩
open Go.RowKit Go.Lib in
def Tryz.lays267_ren : Go.Shelf.Ren := ⟨fun | 267 => 286 | 314 => 303 | n => n, fun | 9 => 9 | 3 => 3 | 146 => 338 | 51 => 337 | 4 => 4 | 5 => 5 | 46 => 331 | n => n, fun | n => n⟩
open Go.RowKit Go.Lib in
def Tryz.lays219_ren : Go.Shelf.Ren := ⟨fun | 219 => 235 | 217 => 283 | 225 => 284 | 224 => 285 | 267 => 286 | 266 => 302 | 314 => 303 | n => n, fun | 9 => 9 | 3 => 3 | 4 => 4 | 5 => 5 | 46 => 331 | 146 => 338 | 51 => 337 | n => n, fun | 1 => 0 | n => n⟩
open Go.RowKit Go.Lib in
open Go.RowKit Go.Lib in
def Tryz.lays143_ren : Go.Shelf.Ren := ⟨fun | 143 => 174 | 219 => 235 | 217 => 283 | 225 => 284 | 224 => 285 | 267 => 286 | 266 => 302 | 314 => 303 | n => n, fun | 9 => 9 | 3 => 3 | 4 => 4 | 5 => 5 | 46 => 331 | 146 => 338 | 51 => 337 | n => n, fun | 1 => 0 | n => n⟩
theorem Tryz.lays143 : Go.Proofs.Lays.n143 Tryz.prog Tryz.lays143_ren := {
  mixed := by kernel_rfl
  f143 := Tryz.func174.trans (congrArg some (by kernel_rfl))
  f217 := Tryz.func283.trans (congrArg some (by kernel_rfl))
  f219 := Tryz.func235.trans (congrArg some (by kernel_rfl))
  f224 := Tryz.func285.trans (congrArg some (by kernel_rfl))
  f225 := Tryz.func284.trans (congrArg some (by kernel_rfl))
  f266 := Tryz.func302.trans (congrArg some (by kernel_rfl))
  f267 := Tryz.func286.trans (congrArg some (by kernel_rfl))
  f314 := Tryz.func303.trans (congrArg some (by kernel_rfl))
  t3 := Tryz.underlying3
  a3 := Tryz.isAgg3
  z3 := Tryz.sizeOf3
  v3 := Tryz.zeroValue3
  t4 := Tryz.underlying4
  a4 := Tryz.isAgg4
  z4 := Tryz.sizeOf4
  v4 := Tryz.zeroValue4
  t5 := Tryz.underlying5
  a5 := Tryz.isAgg5
  z5 := Tryz.sizeOf5
  v5 := Tryz.zeroValue5
  t9 := Tryz.underlying9
  a9 := Tryz.isAgg9
  z9 := Tryz.sizeOf9
  v9 := Tryz.zeroValue9
  t46 := Tryz.underlying331
  a46 := Tryz.isAgg331
  z46 := Tryz.sizeOf331
  v46 := Tryz.zeroValue331
  t51 := Tryz.underlying337
  a51 := Tryz.isAgg337
  z51 := Tryz.sizeOf337
  v51 := Tryz.zeroValue337
  t146 := Tryz.underlying338
  a146 := Tryz.isAgg338
  z146 := Tryz.sizeOf338
  v146 := Tryz.zeroValue338
  g1 := by kernel_rfl }
open Go.RowKit Go.Lib in
open Go.RowKit Go.Lib in
theorem Tryz.strings_Index (s sub : ByteArray) (m : Int) (w : World) (hs : s.size < 4294967281) (hm : w.cell? ⟨0, 0, none⟩ = some (.int .i64 m)) :
    Calls Tryz.prog 174 #[.string s, .string sub] w fun e w' => e = .returned (.int .i64 (Lib.index s.data.toList sub.data.toList)) ∧ w' = w := Any.strings_Index Tryz.lays143 s sub m w hs hm
def Tryz.lays144_ren : Go.Shelf.Ren := ⟨fun | 144 => 349 | 143 => 174 | 219 => 235 | 217 => 283 | 225 => 284 | 224 => 285 | 267 => 286 | 266 => 302 | 314 => 303 | n => n, fun | 9 => 9 | 4 => 4 | 3 => 3 | 5 => 5 | 46 => 331 | 146 => 338 | 51 => 337 | n => n, fun | 1 => 0 | n => n⟩
open Go.RowKit Go.Lib in
open Go.RowKit Go.Lib in
def Tryz.laysM219_ren : Go.Shelf.Ren := ⟨fun | 219 => 235 | 217 => 283 | 225 => 284 | 224 => 285 | 267 => 286 | 266 => 302 | 314 => 303 | n => n, fun | 9 => 9 | 3 => 3 | 4 => 4 | 5 => 5 | 46 => 331 | 146 => 338 | 51 => 337 | n => n, fun | 1 => 0 | n => n⟩
open Go.RowKit Go.Lib in
def Tryz.laysM143_ren : Go.Shelf.Ren := ⟨fun | 143 => 174 | 219 => 235 | 217 => 283 | 225 => 284 | 224 => 285 | 267 => 286 | 266 => 302 | 314 => 303 | n => n, fun | 9 => 9 | 3 => 3 | 4 => 4 | 5 => 5 | 46 => 331 | 146 => 338 | 51 => 337 | n => n, fun | 1 => 0 | n => n⟩
open Go.RowKit Go.Lib in
def Tryz.laysM144_ren : Go.Shelf.Ren := ⟨fun | 144 => 349 | 143 => 174 | 219 => 235 | 217 => 283 | 225 => 284 | 224 => 285 | 267 => 286 | 266 => 302 | 314 => 303 | n => n, fun | 9 => 9 | 4 => 4 | 3 => 3 | 5 => 5 | 46 => 331 | 146 => 338 | 51 => 337 | n => n, fun | 1 => 0 | n => n⟩
open Go.RowKit Go.Lib in
def Tryz.lays206_ren : Go.Shelf.Ren := ⟨fun | 206 => 169 | n => n, fun | 9 => 9 | 4 => 4 | 3 => 3 | n => n, fun | n => n⟩
open Go.RowKit Go.Lib in
def Tryz.lays99_ren : Go.Shelf.Ren := ⟨fun | 99 => 105 | 206 => 169 | n => n, fun | 9 => 9 | 4 => 4 | 3 => 3 | n => n, fun | n => n⟩
theorem Tryz.lays99 : Go.Proofs.Lays.n99 Tryz.prog Tryz.lays99_ren := {
  mixed := by kernel_rfl
  f99 := Tryz.func105.trans (congrArg some (by kernel_rfl))
  f206 := Tryz.func169.trans (congrArg some (by kernel_rfl))
  t3 := Tryz.underlying3
  a3 := Tryz.isAgg3
  z3 := Tryz.sizeOf3
  v3 := Tryz.zeroValue3
  t4 := Tryz.underlying4
  a4 := Tryz.isAgg4
  z4 := Tryz.sizeOf4
  v4 := Tryz.zeroValue4
  t9 := Tryz.underlying9
  a9 := Tryz.isAgg9
  z9 := Tryz.sizeOf9
  v9 := Tryz.zeroValue9 }
open Go.RowKit Go.Lib in
theorem Tryz.strings_HasPrefix (s p : ByteArray) (w : World) :
    Calls Tryz.prog 105 #[.string s, .string p] w fun e w' => e = .returned (.bool (Lib.hasPrefix s.data.toList p.data.toList)) ∧ w' = w := Any.strings_HasPrefix Tryz.lays99 s p w
def Tryz.lays207_ren : Go.Shelf.Ren := ⟨fun | 207 => 352 | n => n, fun | 9 => 9 | 4 => 4 | 3 => 3 | n => n, fun | n => n⟩
open Go.RowKit Go.Lib in
def Tryz.lays100_ren : Go.Shelf.Ren := ⟨fun | 100 => 348 | 207 => 352 | n => n, fun | 9 => 9 | 4 => 4 | 3 => 3 | n => n, fun | n => n⟩
open Go.RowKit Go.Lib in
def Tryz.lays157_ren : Go.Shelf.Ren := ⟨fun | 157 => 347 | 229 => 350 | 199 => 351 | 261 => 353 | 311 => 354 | 312 => 355 | n => n, fun | 9 => 9 | 31 => 26 | 3 => 3 | 5 => 5 | 4 => 4 | 119 => 367 | 0 => 0 | 40 => 369 | 152 => 370 | 21 => 21 | 154 => 372 | 51 => 337 | 141 => 374 | 196 => 378 | 193 => 375 | 198 => 381 | 49 => 379 | 194 => 376 | 201 => 384 | 226 => 386 | 46 => 331 | 227 => 387 | n => n, fun | 0 => 1 | 6 => 2 | n => n⟩
open Go.RowKit Go.Lib in
def Tryz.laysM157_ren : Go.Shelf.Ren := ⟨fun | 157 => 347 | 229 => 350 | 199 => 351 | 261 => 353 | 311 => 354 | 312 => 355 | n => n, fun | 9 => 9 | 31 => 26 | 3 => 3 | 5 => 5 | 4 => 4 | 119 => 367 | 0 => 0 | 40 => 369 | 152 => 370 | 21 => 21 | 154 => 372 | 51 => 337 | 141 => 374 | 196 => 378 | 193 => 375 | 198 => 381 | 49 => 379 | 194 => 376 | 201 => 384 | 226 => 386 | 46 => 331 | 227 => 387 | n => n, fun | 0 => 1 | 6 => 2 | n => n⟩
open Go.RowKit Go.Lib in
def Tryz.lays199_ren : Go.Shelf.Ren := ⟨fun | 199 => 351 | 261 => 353 | 311 => 354 | 312 => 355 | n => n, fun | 21 => 21 | 4 => 4 | 51 => 337 | 141 => 374 | 0 => 0 | 196 => 378 | 193 => 375 | 3 => 3 | 198 => 381 | 49 => 379 | 194 => 376 | 201 => 384 | 226 => 386 | 46 => 331 | 227 => 387 | n => n, fun | 6 => 2 | n => n⟩
open Go.RowKit Go.Lib in
def Tryz.lays311_ren : Go.Shelf.Ren := ⟨fun | 311 => 354 | n => n, fun | 193 => 375 | 49 => 379 | 4 => 4 | 3 => 3 | 0 => 0 | 226 => 386 | 198 => 381 | 46 => 331 | n => n, fun | n => n⟩
open Go.RowKit Go.Lib in
def Tryz.lays261_ren : Go.Shelf.Ren := ⟨fun | 261 => 353 | 311 => 354 | 312 => 355 | n => n, fun | 141 => 374 | 21 => 21 | 4 => 4 | 0 => 0 | 196 => 378 | 193 => 375 | 3 => 3 | 51 => 337 | 198 => 381 | 49 => 379 | 194 => 376 | 201 => 384 | 226 => 386 | 46 => 331 | 227 => 387 | n => n, fun | n => n⟩
open Go.RowKit Go.Lib in
open Go.RowKit Go.Lib in
open Go.RowKit Go.Lib in
open Go.RowKit Go.Lib in
open Go.RowKit Go.Lib in
open Go.RowKit Go.Lib in
open Go.RowKit Go.Lib in
def Tryz.lays229_ren : Go.Shelf.Ren := ⟨fun | 229 => 350 | n => n, fun | 9 => 9 | 40 => 369 | 31 => 26 | 152 => 370 | 3 => 3 | 0 => 0 | 4 => 4 | 21 => 21 | 154 => 372 | n => n, fun | n => n⟩
open Go.RowKit Go.Lib in
open Go.RowKit Go.Lib in
open Go.RowKit Go.Lib in
def Tryz.lays312_ren : Go.Shelf.Ren := ⟨fun | 312 => 355 | n => n, fun | 194 => 376 | 51 => 337 | 4 => 4 | 3 => 3 | 0 => 0 | 227 => 387 | 201 => 384 | 46 => 331 | n => n, fun | n => n⟩
open Go.RowKit Go.Lib in
open Go.RowKit Go.Lib in
def Tryz.lays108_ren : Go.Shelf.Ren := ⟨fun | 108 => 246 | n => n, fun | 28 => 31 | 3 => 3 | 0 => 0 | 4 => 4 | n => n, fun | n => n⟩
open Go.Lib in
open Go.Lib in
def Tryz.lays107_ren : Go.Shelf.Ren := ⟨fun | 107 => 186 | 108 => 246 | n => n, fun | 28 => 31 | 3 => 3 | 4 => 4 | 0 => 0 | n => n, fun | n => n⟩
theorem Tryz.lays107 : Go.Proofs.Lays.n107 Tryz.prog Tryz.lays107_ren := {
  mixed := by kernel_rfl
  f107 := Tryz.func186.trans (congrArg some (by kernel_rfl))
  f108 := Tryz.func246.trans (congrArg some (by kernel_rfl))
  t0 := Tryz.underlying0
  a0 := Tryz.isAgg0
  z0 := Tryz.sizeOf0
  v0 := Tryz.zeroValue0
  t3 := Tryz.underlying3
  a3 := Tryz.isAgg3
  z3 := Tryz.sizeOf3
  v3 := Tryz.zeroValue3
  t4 := Tryz.underlying4
  a4 := Tryz.isAgg4
  z4 := Tryz.sizeOf4
  v4 := Tryz.zeroValue4
  t28 := Tryz.underlying31
  a28 := Tryz.isAgg31
  z28 := Tryz.sizeOf31
  v28 := Tryz.zeroValue31 }
open Go.Lib in
theorem Tryz.slices_Contains_int (b off n c : Nat) (zs : List Int) (x : Int) (w : World) (hz : n ≤ zs.length) (hbig : n ≤ 9223372036854775807) (hc : ∀ j, j < zs.length → w.cell? ⟨b, off + j, none⟩ = some (.int .i64 (zs.getD j 0))) :
    Calls Tryz.prog 186 #[.slice (some ⟨b, off, none⟩) n c, .int .i64 x] w fun e w' => e = .returned (.bool ((zs.take n).contains x)) ∧ w' = w := Any.slices_Contains_int Tryz.lays107 b off n c zs x w hz hbig hc
open Go.Lib in
def Tryz.lays109_ren : Go.Shelf.Ren := ⟨fun | 109 => 247 | n => n, fun | 31 => 26 | 9 => 9 | 3 => 3 | 0 => 0 | 4 => 4 | n => n, fun | n => n⟩
open Go.Lib in
open Go.Lib in
def Tryz.lays110_ren : Go.Shelf.Ren := ⟨fun | 110 => 188 | 109 => 247 | n => n, fun | 31 => 26 | 9 => 9 | 4 => 4 | 3 => 3 | 0 => 0 | n => n, fun | n => n⟩
theorem Tryz.lays110 : Go.Proofs.Lays.n110 Tryz.prog Tryz.lays110_ren := {
  mixed := by kernel_rfl
  f109 := Tryz.func247.trans (congrArg some (by kernel_rfl))
  f110 := Tryz.func188.trans (congrArg some (by kernel_rfl))
  t0 := Tryz.underlying0
  a0 := Tryz.isAgg0
  z0 := Tryz.sizeOf0
  v0 := Tryz.zeroValue0
  t3 := Tryz.underlying3
  a3 := Tryz.isAgg3
  z3 := Tryz.sizeOf3
  v3 := Tryz.zeroValue3
  t4 := Tryz.underlying4
  a4 := Tryz.isAgg4
  z4 := Tryz.sizeOf4
  v4 := Tryz.zeroValue4
  t9 := Tryz.underlying9
  a9 := Tryz.isAgg9
  z9 := Tryz.sizeOf9
  v9 := Tryz.zeroValue9
  t31 := Tryz.underlying26
  a31 := Tryz.isAgg26
  z31 := Tryz.sizeOf26
  v31 := Tryz.zeroValue26 }
open Go.Lib in
theorem Tryz.slices_Contains_string (b off n c : Nat) (zs : List ByteArray) (x : ByteArray) (w : World) (hz : n ≤ zs.length) (hbig : n ≤ 9223372036854775807) (hc : ∀ j, j < zs.length → w.cell? ⟨b, off + j, none⟩ = some (.string (zs.getD j ByteArray.empty))) :
    Calls Tryz.prog 188 #[.slice (some ⟨b, off, none⟩) n c, .string x] w fun e w' => e = .returned (.bool (Lib.containsS (zs.take n) x)) ∧ w' = w := Any.slices_Contains_string Tryz.lays110 b off n c zs x w hz hbig hc
open Go.Lib in
theorem Tryz.slices_Contains_string_empty (a : Option Addr) (c : Nat) (x : ByteArray) (w : World) :
    Calls Tryz.prog 188 #[.slice a 0 c, .string x] w fun e w' => e = .returned (.bool false) ∧ w' = w := Any.slices_Contains_string_empty Tryz.lays110 a c x w
end Go.Proofs
namespace Go.Proofs.YtlliliddljkbfaaGreat
set_option maxHeartbeats 64000000
set_option maxRecDepth 100000
open Go.RowKit Sp
theorem below_drewN {b : Nat} {w w' : World} (h : Below b w w') (n : Nat) : Below b w (w'.drewN n) := ⟨h.os, h.tape, h.output, h.size, h.block⟩
def cmp3 (x y z x' y' z' : Int) : Int := if Lib.compareInt x x' = 0 then (if Lib.compareInt y y' = 0 then Lib.compareInt z z' else Lib.compareInt y y') else Lib.compareInt x x'
theorem scmp_c (x y z x' y' z' : Int) (b b' : Nat) (w : World) (h1 : W3 w b x y z) (h2 : W3 w b' x' y' z') :
    Calls Tryz.prog 227 #[.slice (some ⟨b, 0, none⟩) 3 3, .slice (some ⟨b', 0, none⟩) 3 3] w fun ex w' => ex = .returned (.int .i64 (cmp3 x y z x' y' z')) ∧ w' = w := by
  obtain ⟨a0, a1, a2⟩ := h1.cs
  obtain ⟨c0, c1, c2⟩ := h2.cs
  obtain ⟨u, Hu⟩ : ∃ u, Hid (Lib.compareInt x x' = u) := ⟨_, hid rfl⟩
  obtain ⟨v, Hv⟩ : ∃ u, Hid (Lib.compareInt y y' = u) := ⟨_, hid rfl⟩
  obtain ⟨t, Ht⟩ : ∃ u, Hid (Lib.compareInt z z' = u) := ⟨_, hid rfl⟩
  have HR : Hid (cmp3 x y z x' y' z' = if u = 0 then (if v = 0 then t else v) else u) := by show _ = _; unfold cmp3; rw [Hu.out, Hv.out, Ht.out]
  obtain ⟨r, Hr⟩ : ∃ r, Hid ((if u = 0 then (if v = 0 then t else v) else u) = r) := ⟨_, hid rfl⟩
  rw [HR.out, Hr.out]
  go_enter Tryz.func227, Tryz.ntmps227
  go_wp2_with fail
  refine wp_loop_rounds 4 ?_
  rw [rounds_succ]
  go_wp2_with fail
  refine (Tryz.cmp_Compare_int x x' _).mono ?_
  rw [Hu.out]
  rintro e wq ⟨rfl, hwq⟩
  rw [hwq]
  clear hwq
  by_cases hu : u = 0
  · subst hu
    go_wp2_with fail
    rw [rounds_succ]
    go_wp2_with fail
    refine (Tryz.cmp_Compare_int y y' _).mono ?_
    rw [Hv.out]
    rintro e wq ⟨rfl, hwq⟩
    rw [hwq]
    clear hwq
    by_cases hv : v = 0
    · subst hv
      have HE : Hid (t = r) := by have := Hr.out; show _ = _; simpa using this
      go_wp2_with fail
      rw [rounds_succ]
      go_wp2_with fail
      refine (Tryz.cmp_Compare_int z z' _).mono ?_
      rw [Ht.out]
      rintro e wq ⟨rfl, hwq⟩
      rw [hwq]
      clear hwq
      by_cases ht : t = 0
      · subst ht
        go_wp2_with fail
        rw [rounds_succ]
        go_wp2_with fail
        go_ret
        exact ⟨by rw [← HE.out]; rfl, rfl⟩
      · have e1 : (t == 0) = false := by simpa using ht
        go_wp2_with fail
        go_ret
        exact ⟨by rw [← HE.out]; rfl, rfl⟩
    · have HE : Hid (v = r) := by have := Hr.out; show _ = _; simpa [hv] using this
      have e1 : (v == 0) = false := by simpa using hv
      go_wp2_with fail
      go_ret
      exact ⟨by rw [← HE.out]; rfl, rfl⟩
  · have HE : Hid (u = r) := by have := Hr.out; show _ = _; simpa [hu] using this
    have e1 : (u == 0) = false := by simpa using hu
    go_wp2_with fail
    go_ret
    exact ⟨by rw [← HE.out]; rfl, rfl⟩
theorem wcmp_c (x y z x' y' z' : Int) (w : World) :
    Calls Tryz.prog 159 #[wtV x y z, wtV x' y' z'] w fun ex w' => ex = .returned (.int .i64 (cmp3 x y z x' y' z')) ∧ Below w.heap.size w w' := by
  unfold wtV
  have A0 : Hid (W3 ((w.alloc (.cells #[.int .i64 x, .int .i64 y, .int .i64 z] 177)).alloc (.cells #[.int .i64 x', .int .i64 y', .int .i64 z'] 177)) w.heap.size x y z) := (W3.new w x y z).alloc _
  have A1 : Hid (W3 ((w.alloc (.cells #[.int .i64 x, .int .i64 y, .int .i64 z] 177)).alloc (.cells #[.int .i64 x', .int .i64 y', .int .i64 z'] 177)) (w.heap.size + 1) x' y' z') := by
    have := W3.new (w.alloc (.cells #[.int .i64 x, .int .i64 y, .int .i64 z] 177)) x' y' z'
    show W3 _ _ _ _ _
    simpa using this
  have B0 : Hid (Below w.heap.size w ((w.alloc (.cells #[.int .i64 x, .int .i64 y, .int .i64 z] 177)).alloc (.cells #[.int .i64 x', .int .i64 y', .int .i64 z'] 177))) := ((Below.refl _ _).alloc (Nat.le_refl _) _).alloc (by simp) _
  go_enter Tryz.func159, Tryz.ntmps159
  go_wp2_with fail
  generalize (w.alloc (.cells #[.int .i64 x, .int .i64 y, .int .i64 z] 177)).alloc (.cells #[.int .i64 x', .int .i64 y', .int .i64 z'] 177) = w2 at *
  go_quiet ((go_at_call 227; exact Calls.quiet_of_same (scmp_c x y z x' y' z' _ _ _ A0.out A1.out)))
  go_wp2_with fail
  go_ret
  exact ⟨rfl, below_drewN B0.out _⟩
theorem rstr2 {a b : ByteArray} (h : a = b) : Ending.returned (.string a) = Ending.returned (.string b) := by rw [h]
theorem IsSign_c (t : Tok) (kv : Value) (x : ByteArray) (w : World) :
    Calls Tryz.prog 195 #[nodV t kv, .string x] w fun e w' => e = .returned (.bool (signT t x)) ∧ Below w.heap.size w w' := by
  unfold nodV
  cases h : (t.kind == 15)
  · have HV : Hid (signT t x = false) := by show _ = _; simp at h; simp [signT, h]
    go_enter Tryz.func195, Tryz.ntmps195
    go_wp2_with fail
    go_ret
    exact ⟨rbool HV.out.symm, (Below.refl _ _).alloc (Nat.le_refl _) _⟩
  · have HV : Hid (signT t x = (t.word.toList == x.toList)) := by show _ = _; rw [bytes_beq]; simp at h; simp [signT, h]
    go_enter Tryz.func195, Tryz.ntmps195
    go_wp2_with fail
    go_ret
    exact ⟨rbool HV.out.symm, (Below.refl _ _).alloc (Nat.le_refl _) _⟩
theorem Closer_c (t : Tok) (w : World) :
    Calls Tryz.prog 109 #[.agg #[.int .i64 t.kind, .string t.word, .string t.unit]] w fun e w' => e = .returned (.string (closing t)) ∧ Below w.heap.size w w' := by
  cases h11 : (t.kind == 11)
  · cases h15 : (t.kind == 15)
    · have HV : Hid (closing t = nob) := by show _ = _; simp at h11 h15; simp [closing, h11, h15]
      go_enter Tryz.func109, Tryz.ntmps109
      go_wp2_with fail
      go_ret
      exact ⟨rstr2 HV.out.symm, (Below.refl _ _).alloc (Nat.le_refl _) _⟩
    · have e15 : t.kind = 15 := by simpa using h15
      cases h40 : (t.word.toList == [40])
      · cases h91 : (t.word.toList == [91])
        · cases h123 : (t.word.toList == [123])
          · have HV : Hid (closing t = nob) := by show _ = _; rw [bytes_lit] at h40 h91 h123; simp at h40 h91 h123; simp [closing, e15, b1, h40, h91, h123]
            clear e15
            go_enter Tryz.func109, Tryz.ntmps109
            go_wp2_with fail
            go_ret
            exact ⟨rstr2 HV.out.symm, (Below.refl _ _).alloc (Nat.le_refl _) _⟩
          · have HV : Hid (closing t = b1 125) := by show _ = _; rw [bytes_lit] at h40 h91 h123; simp at h40 h91 h123; simp [closing, e15, b1, h123]
            clear e15
            go_enter Tryz.func109, Tryz.ntmps109
            go_wp2_with fail
            go_ret
            exact ⟨rstr2 HV.out.symm, (Below.refl _ _).alloc (Nat.le_refl _) _⟩
        · have HV : Hid (closing t = b1 93) := by show _ = _; rw [bytes_lit] at h40 h91; simp at h40 h91; simp [closing, e15, b1, h91]
          clear e15
          go_enter Tryz.func109, Tryz.ntmps109
          go_wp2_with fail
          go_ret
          exact ⟨rstr2 HV.out.symm, (Below.refl _ _).alloc (Nat.le_refl _) _⟩
      · have HV : Hid (closing t = b1 41) := by show _ = _; rw [bytes_lit] at h40; simp at h40; simp [closing, e15, b1, h40]
        clear e15
        go_enter Tryz.func109, Tryz.ntmps109
        go_wp2_with fail
        go_ret
        exact ⟨rstr2 HV.out.symm, (Below.refl _ _).alloc (Nat.le_refl _) _⟩
  · have HV : Hid (closing t = b1 41) := by show _ = _; simp at h11; simp [closing, h11]
    go_enter Tryz.func109, Tryz.ntmps109
    go_wp2_with fail
    go_ret
    exact ⟨rstr2 HV.out.symm, (Below.refl _ _).alloc (Nat.le_refl _) _⟩
end Go.Proofs.YtlliliddljkbfaaGreat
