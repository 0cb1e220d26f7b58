import Derived.Test.YtlliliddljkbfaaGreatC12
import Derived.Lib.SmallJoins
set_option maxHeartbeats 64000000
set_option maxRecDepth 100000
namespace Go.Proofs.YtlliliddljkbfaaGreat
open Go.Proofs.Tryz (prog)
open Go.RowKit Sp Go.ChangeShapes Go.WideShapes Go.ChangeAt
theorem abQ:prog.cellsOf 9=1:=by kernel_rfl
theorem Ob:prog.cellsOf 57=5:=by kernel_rfl
theorem KN{W:WD}{a:Addr}{v:Av}(h:W.cell? (a.add 0)=some v):∃g o,a=⟨g,o,none⟩:=by
 have e:a.add 0=a:=by unfold Addr.add;rw[if_pos rfl]
 rw[e]at h;obtain⟨g,o,sp⟩:=a;have hs:sp=none:=World.cell?_spot h;exact⟨g,o,by rw[hs]⟩
section
variable {H:Type} {enc:TypeId × Av->H} {W:WD}
theorem abR{fuel:Nat}{cs:List Av}{x:DataW H×List MemPlace}(h:DataW.trod enc prog W 0 (fun _=>true) true fuel 26 cs=some x):
  ∃a n cap f,cs=[.slice a n cap]/\Vb W.heap.size W a n f:=by
 rcases open_strings Tryz.underlying26 Tryz.underlying9 abQ h with⟨hcs,_⟩|⟨a,len,cap,ss,hcs,_,hl,hm,hz,hx,hcell,hsz⟩
 .exact⟨none,0,0,fun _=>aA,hcs,oo,fun i hi=>by omega⟩
 .simp only[if_true]at hz;refine⟨some a,len,cap,fun i=>ss.getD i ByteArray.empty,hcs,by unfold maxLen at hm;omega,fun i hi _=>?_⟩;obtain⟨g,o,rfl⟩:=KN (hcell 0 oo);have hc:=hcell i oo;rw[Addr.add_lit]at hc;refine⟨g,o,rfl,World.block_lt_of_cell? W _ hc,hc,?_⟩;have hi':i<ss.length:=oo;have:=hsz (ss.getD i ByteArray.empty) (by rw[List.getD_eq_getElem?_getD,List.getElem?_eq_getElem hi'];exact List.getElem_mem hi');unfold maxLen at this;omega
theorem akD{n:Int}(h:(Lit.int .i64 n).wf=true):Ql n:=by
 unfold Lit.wf at h;simp only[Bool.and_eq_true,decide_eq_true_eq]at h;have e1:IntKind.i64.min = -9223372036854775808:=by decide
 have e2:IntKind.i64.max=9223372036854775807:=by decide
 rw[e1,e2]at h;exact h
theorem afE:prog.cellsOf 3=1:=by kernel_rfl
theorem abS{n:Nat}{c:List Av}{y:DataW H×List MemPlace}(h:DataW.trod enc prog W 0 (fun _=>true) true n 57 c=some y):
  ∃r:XF,c=[.int .i64 r.parent,.int .i64 r.tag,.int .i64 r.id,.int .i64 r.cls,.int .i64 r.attr]/\Ql r.parent/\Ql r.tag/\Ql r.id/\Ql r.cls/\Ql r.attr:=by
 obtain⟨xs,m,_,_,hl,hxl,hf⟩:=DataW.trod_struct Tryz.underlying57 h;rw[Ob]at hl;match c,hl with
 |[w0,w1,w2,w3,w4],_=>
  have h5:xs.length=5:=hxl;have key:∀(i:Nat) (v:Av),DataW.trod enc prog W 0 (fun _=>true) true m 3 [v]=xs[i]?->i<5->∃k,v=.int .i64 k/\Ql k:=by intro i v ht hi;rw[List.getElem?_eq_getElem oo]at ht;obtain⟨k,hk,_,hw⟩:=DataW.trod_int Tryz.underlying3 ht;cases hk;exact⟨k,rfl,akD hw⟩
  have f0:DataW.trod enc prog W 0 (fun _=>true) true m 3 (([w0,w1,w2,w3,w4].drop 0).take (prog.cellsOf 3))=xs[0]?:=hf 0 _ rfl;have f1:DataW.trod enc prog W 0 (fun _=>true) true m 3 (([w0,w1,w2,w3,w4].drop 1).take (prog.cellsOf 3))=xs[1]?:=hf 1 _ rfl;have f2:DataW.trod enc prog W 0 (fun _=>true) true m 3 (([w0,w1,w2,w3,w4].drop 2).take (prog.cellsOf 3))=xs[2]?:=hf 2 _ rfl;have f3:DataW.trod enc prog W 0 (fun _=>true) true m 3 (([w0,w1,w2,w3,w4].drop 3).take (prog.cellsOf 3))=xs[3]?:=hf 3 _ rfl;have f4:DataW.trod enc prog W 0 (fun _=>true) true m 3 (([w0,w1,w2,w3,w4].drop 4).take (prog.cellsOf 3))=xs[4]?:=hf 4 _ rfl;rw[afE]at f0 f1 f2 f3 f4;obtain⟨k0,rfl,i0⟩:=key 0 w0 f0 oo;obtain⟨k1,rfl,i1⟩:=key 1 w1 f1 oo;obtain⟨k2,rfl,i2⟩:=key 2 w2 f2 oo;obtain⟨k3,rfl,i3⟩:=key 3 w3 f3 oo;obtain⟨k4,rfl,i4⟩:=key 4 w4 f4 oo
  exact⟨⟨k0,k1,k2,k3,k4⟩,rfl,i0,i1,i2,i3,i4⟩
theorem afF{fuel:Nat}{cs:List Av}{x:DataW H×List MemPlace}(h:DataW.trod enc prog W 0 (fun _=>true) true fuel 49 cs=some x):
  ∃a n cap f,cs=[.slice a n cap]/\XG W.heap.size W a n f:=by
 rcases DataW.trod_slice Tryz.underlying49 h with⟨hcs,_⟩|⟨a,len,cap,elems,rest,n,_,hcs,hx,hb,hl,hm,hlen,hel,_,_⟩
 .exact⟨none,0,0,fun _=>⟨0,0,0,0,0⟩,hcs,oo,fun i hi=>by omega⟩
 .rw[Ob]at hel;have key:∀i,i<len->∃r:XF,(∀j u,[Value.int .i64 r.parent,.int .i64 r.tag,.int .i64 r.id,.int .i64 r.cls,.int .i64 r.attr][j]?=some u->W.cell? ((a.add (i*5)).add j)=some u)/\Ql r.parent/\Ql r.tag/\Ql r.id/\Ql r.cls/\Ql r.attr:=by
   intro i hi;have h1:=hel i hi;rw[List.getElem?_eq_getElem oo]at h1;obtain⟨c,hc,ht⟩:=Option.bind_eq_some_iff.1 h1;obtain⟨r,rfl,hin⟩:=abS ht;obtain⟨_,_,hcell⟩:=World.cells?_some hc;exact⟨r,fun j u hu=>by rw[hcell j (by have:=(List.getElem?_eq_some_iff.1 hu).1;simpa using this)];exact hu,hin⟩
  refine⟨some a,len,cap,fun i=>if h:i<len then(key i h).choose else⟨0,0,0,0,0⟩,hcs,by unfold maxLen at hm;omega,fun i hi _=>?_⟩;obtain⟨hc,hin⟩:=(key i hi).choose_spec;obtain⟨r0,hr0,_⟩:=key 0 oo;have h00:=hr0 0 _ rfl;rw[Nat.zero_mul]at h00;have ea:(a.add 0).add 0=a.add 0:=by unfold Addr.add;rw[if_pos rfl]
  rw[ea]at h00;obtain⟨g,o,rfl⟩:=KN h00;simp only[dif_pos hi];have e:∀j,((⟨g,o,none⟩:Addr).add (i*5)).add j=⟨g,o+i*5+j,none⟩:=fun j=>by rw[Addr.add_lit,Addr.add_lit]
  have c0:=hc 0 _ rfl;have c1:=hc 1 _ rfl;have c2:=hc 2 _ rfl;have c3:=hc 3 _ rfl;have c4:=hc 4 _ rfl;rw[e]at c0 c1 c2 c3 c4;exact⟨g,o,rfl,World.block_lt_of_cell? W _ c0,⟨c0,c1,c2,c3,c4⟩,hin⟩
end
end Go.Proofs.YtlliliddljkbfaaGreat
namespace Go.Proofs.YtlliliddljkbfaaGreat
open Go.Proofs.Tryz (prog)
open Go.RowKit Sp Go.ChangeShapes Go.WideShapes Go.ChangeAt
theorem aoj:prog.cellsOf 30=4:=by kernel_rfl
theorem ao5:prog.cellsOf 4=1:=by kernel_rfl
section
variable {H:Type} {enc:TypeId × Av->H} {W:WD}
theorem ao6{n:Nat}{c:List Av}{y:DataW H×List MemPlace}(h:DataW.trod enc prog W 0 (fun _=>true) true n 30 c=some y):
  ∃r:aod,c=[.int .i64 r.sel,.int .i64 r.prop,.int .i64 r.val,.bool r.im]/\Ql r.sel/\Ql r.prop/\Ql r.val:=by
 obtain⟨xs,m,_,_,hl,hxl,hf⟩:=DataW.trod_struct Tryz.underlying30 h;rw[aoj]at hl;match c,hl with
 |[w0,w1,w2,w3],_=>
  have h5:xs.length=4:=hxl;have key:∀(i:Nat) (v:Av),DataW.trod enc prog W 0 (fun _=>true) true m 3 [v]=xs[i]?->i<4->∃k,v=.int .i64 k/\Ql k:=by intro i v ht hi;rw[List.getElem?_eq_getElem oo]at ht;obtain⟨k,hk,_,hw⟩:=DataW.trod_int Tryz.underlying3 ht;cases hk;exact⟨k,rfl,akD hw⟩
  have f0:DataW.trod enc prog W 0 (fun _=>true) true m 3 (([w0,w1,w2,w3].drop 0).take (prog.cellsOf 3))=xs[0]?:=hf 0 _ rfl;have f1:DataW.trod enc prog W 0 (fun _=>true) true m 3 (([w0,w1,w2,w3].drop 1).take (prog.cellsOf 3))=xs[1]?:=hf 1 _ rfl;have f2:DataW.trod enc prog W 0 (fun _=>true) true m 3 (([w0,w1,w2,w3].drop 2).take (prog.cellsOf 3))=xs[2]?:=hf 2 _ rfl;have f3:DataW.trod enc prog W 0 (fun _=>true) true m 4 (([w0,w1,w2,w3].drop 3).take (prog.cellsOf 4))=xs[3]?:=hf 3 _ rfl;rw[afE]at f0 f1 f2;rw[ao5]at f3;obtain⟨k0,rfl,i0⟩:=key 0 w0 f0 oo;obtain⟨k1,rfl,i1⟩:=key 1 w1 f1 oo;obtain⟨k2,rfl,i2⟩:=key 2 w2 f2 oo;rw[List.getElem?_eq_getElem oo]at f3;obtain⟨b,hb,_⟩:=DataW.trod_bool Tryz.underlying4 f3;cases hb;exact⟨⟨k0,k1,k2,b⟩,rfl,i0,i1,i2⟩
theorem aoJ{fuel:Nat}{cs:List Av}{x:DataW H×List MemPlace}(h:DataW.trod enc prog W 0 (fun _=>true) true fuel 55 cs=some x):
  ∃a n cap f,cs=[.slice a n cap]/\apq W.heap.size W a n f:=by
 rcases DataW.trod_slice Tryz.underlying55 h with⟨hcs,_⟩|⟨a,len,cap,elems,rest,n,_,hcs,hx,hb,hl,hm,hlen,hel,_,_⟩
 .exact⟨none,0,0,fun _=>⟨0,0,0,false⟩,hcs,oo,fun i hi=>by omega⟩
 .rw[aoj]at hel;have key:∀i,i<len->∃r:aod,(∀j u,[Value.int .i64 r.sel,.int .i64 r.prop,.int .i64 r.val,.bool r.im][j]?=some u->W.cell? ((a.add (i*4)).add j)=some u)/\Ql r.sel/\Ql r.prop/\Ql r.val:=by
   intro i hi;have h1:=hel i hi;rw[List.getElem?_eq_getElem oo]at h1;obtain⟨c,hc,ht⟩:=Option.bind_eq_some_iff.1 h1;obtain⟨r,rfl,hin⟩:=ao6 ht;obtain⟨_,_,hcell⟩:=World.cells?_some hc;exact⟨r,fun j u hu=>by rw[hcell j (by have:=(List.getElem?_eq_some_iff.1 hu).1;simpa using this)];exact hu,hin⟩
  refine⟨some a,len,cap,fun i=>if h:i<len then(key i h).choose else⟨0,0,0,false⟩,hcs,by unfold maxLen at hm;omega,fun i hi _=>?_⟩;obtain⟨hc,hin⟩:=(key i hi).choose_spec;obtain⟨r0,hr0,_⟩:=key 0 oo;have h00:=hr0 0 _ rfl;rw[Nat.zero_mul]at h00;have ea:(a.add 0).add 0=a.add 0:=by unfold Addr.add;rw[if_pos rfl]
  rw[ea]at h00;obtain⟨g,o,rfl⟩:=KN h00;simp only[dif_pos hi];have e:∀j,((⟨g,o,none⟩:Addr).add (i*4)).add j=⟨g,o+i*4+j,none⟩:=fun j=>by rw[Addr.add_lit,Addr.add_lit]
  have c0:=hc 0 _ rfl;have c1:=hc 1 _ rfl;have c2:=hc 2 _ rfl;have c3:=hc 3 _ rfl;rw[e]at c0 c1 c2 c3;exact⟨g,o,rfl,World.block_lt_of_cell? W _ c0,⟨c0,c1,c2,c3⟩,hin⟩
end
end Go.Proofs.YtlliliddljkbfaaGreat
