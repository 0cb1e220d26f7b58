import Derived.Test.YtlliliddljkbfaaGreatC1
import Derived.Test.YtlliliddljkbfaaGreatRows
import Derived.WalkSpells
import Derived.WalkLawsBesides
import Derived.Handy
import Derived.Deep.RegionHeld
import Derived.BigQuiet
import Derived.Deep.RegionLaw
import Derived.Deep.DeepCutAuto
import Derived.Deep.Light
import Derived.Deep.AppendSrc
import Derived.Lib.IndexBytes
set_option maxHeartbeats 64000000
set_option maxRecDepth 100000
namespace Go.Proofs.YtlliliddljkbfaaGreat.Sp
def Iy(b:Nat):List Pc:=if b=32 then [.blank] else if b=62\/b=43\/b=126 then [.blank,.sign (UInt8.ofNat b),.blank] else []
def CU(name how value:BY):List Pc:=if how=aA then [.sign 91,.ident name,.sign 93] else .sign 91 :: .ident name::(how.data.toList.map Pc.sign++[.text value,.sign 93])
def yA[bV](place:Nat):Pc:=if place=0 then .ident sZ else if place=1 then .ident l7 else .num (H7 (place-2))
mutual
def pcS[bV]:Simple->List Pc
 |.mk kind name how value list place=>
  if kind=116 then(if name=aA then [.sign 42] else [.ident name])
  else if kind=35 then [.hash name]
  else if kind=46 then [.sign 46,.ident name]
  else if kind=91 then CU name how value
  else if name=nD\/name=DY then .sign 58 :: .func name::(Vh [] list++[.sign 41])
  else if name=nG then [.sign 58,.func name,yA place,.sign 41]
  else [.sign 58,.ident name]
def OZ[bV]:List Simple->List Pc
 |[]=>[]
 |s::r=>pcS s++OZ r
def Xm[bV]:Nat×List Simple->List Pc
 |(b,all)=>Iy b++OZ all
def D8[bV]:List (Nat×List Simple)->List Pc
 |[]=>[]
 |t::r=>Xm t++D8 r
def Vh[bV](ahead:List Pc):List (List (Nat×List Simple))->List Pc
 |[]=>[]
 |c::r=>ahead++(D8 c++uH ahead r)
def uH[bV](ahead:List Pc):List (List (Nat×List Simple))->List Pc
 |[]=>[]
 |c::r=>.sign 44::(ahead++(D8 c++uH ahead r))
end
theorem Xn(c:UInt8):(b1 c).data.toList=[c]:=rfl
theorem Tn{b:Nat}(h:b=0\/Io b):(tV b).data.toList=flat (Iy b):=by rcases h with rfl|rfl|rfl|rfl|rfl<;>rfl
theorem adH{name how value:BY}:(zN name how value).data.toList=flat (CU name how value):=by
 unfold zN CU;split
 .simp[flat,Pc.bytes,pR,b1]
 .have hm:∀l:List UInt8,flat (l.map Pc.sign++[.text value,.sign 93])=l++(yw value++[93]):=by
   intro l;induction l with
   |nil=>simp[flat,Pc.bytes]
   |cons c r ih=>simp only[List.map_cons,List.cons_append,flat,Pc.bytes,ih];rfl
  simp only[kV,pR,YW,Xn,flat,hm,Pc.bytes]
theorem Tq{nm:BY}(h:Il nm):nm.data.toList=gZ nm/\0<nm.size/\small (vZ nm)≠url/\vZ nm=nm/\small nm=nm:=by rcases h with rfl|rfl|rfl|rfl|rfl|rfl|rfl<;>decide
theorem adI[bV](n:Nat):((if n=0 then sZ else if n=1 then l7 else H7 (n-2)):BY).data.toList=(yA n).bytes:=by
 unfold yA;split
 .decide
 .split
  .decide
  .rfl
mutual
theorem agI[bV]:∀(s:Simple),Tf s->(Am s).data.toList=flat (pcS s)
 |.mk kind name how value list place,h=>by
  simp only[Tf]at h;unfold Am pcS;split
  .split
   .rfl
   .simp[flat,Pc.bytes,pR]
  .rename_i k1;split
   .simp[flat,Pc.bytes,pR,b1]
   .rename_i k2;split
    .simp[flat,Pc.bytes,pR,b1]
    .rename_i k3;split
     .exact adH
     .rename_i k4;have hs:Il name:=by
       rcases h.1 with h|h|h|h
       .exact absurd h k1
       .rcases h.1 with h|h
        .exact absurd h k2
        .exact absurd h k3
       .exact absurd h.1 k4
       .exact h.2
      have hn:=(Tq hs).1;split
      .have ih:=Tt aA [] rfl list h.2.2;simp only[kV,Xn,ih,flat,aN,Pc.bytes,hn];simp
      .split
       .simp only[kV,Xn,adI,flat,Pc.bytes,hn];simp
       .simp only[kV,Xn,flat,Pc.bytes,hn];simp
theorem O8[bV]:∀(l:List Simple),KQ l->(vw l).data.toList=flat (OZ l)
 |[],_=>by unfold vw OZ;rfl
 |s::r,h=>by simp only[KQ]at h;unfold vw OZ;rw[kV,aN,agI s h.1,O8 r h.2]
theorem Tv[bV]:∀(l:List (Nat×List Simple)),sfR l->(dW l).data.toList=flat (D8 l)
 |[],_=>by unfold dW D8;rfl
 |(b,all)::r,h=>by simp only[sfR]at h;unfold dW D8 ab9 Xm;rw[kV,aN,kV,aN,Tn (.inr h.1),O8 all h.2.2.2.1,Tv r h.2.2.2.2]
theorem Y7[bV]:∀(l:List (Nat×List Simple)),sfC l->(dW l).data.toList=flat (D8 l)
 |[],h=>by simp only[sfC]at h
 |(b,all)::r,h=>by simp only[sfC]at h;unfold dW D8 ab9 Xm;rw[kV,aN,kV,aN,Tn (.inl h.1),O8 all h.2.2.2.1,Tv r h.2.2.2.2]
theorem Tt[bV](ahead:BY)(pa:List Pc)(ha:ahead.data.toList=flat pa):∀(l:List (List (Nat×List Simple))),F9 l->(jV ahead l).data.toList=flat (Vh pa l)
 |[],_=>by unfold jV Vh;rfl
 |c::r,h=>by simp only[F9]at h;unfold jV Vh;rw[kV,kV,aN,aN,ha,Y7 c h.1,Tz ahead pa ha r h.2]
theorem Tz[bV](ahead:BY)(pa:List Pc)(ha:ahead.data.toList=flat pa):∀(l:List (List (Nat×List Simple))),F9 l->(qC ahead l).data.toList=flat (uH pa l)
 |[],_=>by unfold qC uH;rfl
 |c::r,h=>by simp only[F9]at h;unfold qC uH;rw[kV,kV,kV];show _=[44]++flat (pa++(D8 c++uH pa r));rw[aN,aN,ha,Y7 c h.1,Tz ahead pa ha r h.2];rfl
end
def iw(c:Int):Prop:=lX c=false/\c≠92/\c≠40/\c≠62
theorem nV{w:BY}{r:List UInt8}(h:iw (jy r)):(Pc.ident w).stop r:=⟨⟨h.1,h.2.1⟩,h.2.2.1,h.2.2.2⟩
theorem fK{c:UInt8}{l:List Pc}{r:List UInt8}(h:c∈lT/\c≠43/\c≠45/\c≠46/\c≠47)(hl:Good l r):Good (.sign c::l) r:=⟨h.1,pF _ h.2,hl⟩
theorem Xo{x:BY}(h0:0<x.size)(h:∀c∈x.data.toList,fG (c.toNat:Int)=true):LX x:=by
 intro t j r hat hst;have hl:x.size=x.data.toList.length:=rfl;have hd:∀d,d<x.size->fG (pk t (j+d))=true:=fun d hd=>by rw[hat.at (by omega)];exact h _ (List.getElem_mem _)
 have he:pk t (j+x.size)=jy r:=hat.app.hd;have hdig:mW t j=j+x.size:=SL AE (fun y h1 h2=>by rw[show y=j+(y-j) by omega];exact hd _ AE) (by rw[he];exact hst.1);have h00:fG (pk t j)=true:=by have:=hd 0 h0;simpa using this
 have hs:mX t j=j:=by unfold mX;rw[if_neg (by rw[(GH h00).2.2.2.2];simp)]
 refine⟨?_,?_⟩
 .unfold iO;rw[hs,h00];rfl
 .unfold bT;rw[hs,hdig];have hf:jL t (j+x.size)=j+x.size:=by
   unfold jL;rw[if_neg];rw[he];exact fun hh=>hst.2.1 hh.1
  rw[hf];unfold iq;rw[if_neg];rw[he];exact fun hh=>hh.elim hst.2.2.1 hst.2.2.2
theorem agJ[bV]{n:Nat}(h:n<=999):LX (H7 n):=Xo ((default:ZW).pos n AE) ((default:ZW).mW n AE)
theorem aaY{how:BY}(h:wL how)(hn:how≠aA):(∀c∈how.data.toList,c∈lT/\c≠43/\c≠45/\c≠46/\c≠47)/\∀X,iw (jy (how.data.toList++X)):=by
 rcases h with rfl|rfl|rfl|rfl|rfl|rfl
 .exact absurd rfl hn
 .exact⟨by decide,fun X=>show iw 61 by unfold iw;decide⟩
 .exact⟨by decide,fun X=>show iw 126 by unfold iw;decide⟩
 .exact⟨by decide,fun X=>show iw 94 by unfold iw;decide⟩
 .exact⟨by decide,fun X=>show iw 36 by unfold iw;decide⟩
 .exact⟨by decide,fun X=>show iw 42 by unfold iw;decide⟩
theorem JE:∀(l:List UInt8) (b:List Pc) (r:List UInt8),(∀c∈l,c∈lT/\c≠43/\c≠45/\c≠46/\c≠47)->Good b r->Good (l.map Pc.sign++b) r
 |[],_,_,_,h=>h
 |c::l,b,r,h,hb=>fK (h c (by simp)) (JE l b r (fun x hx=>h x (by simp[hx])) hb)
theorem JF:∀(l:List UInt8) (b:List Pc),flat (l.map Pc.sign++b)=l++flat b
 |[],_=>rfl
 |c::l,b=>by show [c]++flat (l.map Pc.sign++b)=c::l++flat b;rw[JF l b];rfl
theorem aaZ{name how value:BY}(h0:0<name.size)(hh:wL how)(r:List UInt8):Good (CU name how value) r:=by
 unfold CU;split
 .exact fK (by decide) ⟨h0,nV (show iw 93 by unfold iw;decide),fK (by decide) trivial⟩
 .rename_i hn;have hs:=aaY hh hn;refine fK (by decide) ⟨h0,nV ?_,JE _ _ _ hs.1 ⟨trivial,trivial,fK (by decide) trivial⟩⟩;rw[JF,List.append_assoc];exact hs.2 _
theorem Xp[bV]{s:Simple}(h:Tf s)(X:List UInt8):aO (jy (flat (pcS s)++X))=false/\(Xk s≠116->iw (jy (flat (pcS s)++X))):=by
 obtain⟨kind,name,how,value,list,place⟩:=s;simp only[Tf]at h;unfold pcS Xk;split
 .rename_i k;refine⟨?_,fun h=>absurd k h⟩;split
  .rfl
  .rename_i hn;rw[nU];refine(Dx (w:=name) ?_ X).1;rcases Nat.eq_zero_or_pos name.size with e|e
   .exact absurd (by apply ByteArray.ext;apply Array.toList_inj.1;exact List.eq_nil_of_length_eq_zero e) hn
   .exact e
 .split
  .exact⟨rfl,fun _=>show iw 35 by unfold iw;decide⟩
  .split
   .exact⟨rfl,fun _=>show iw 46 by unfold iw;decide⟩
   .split
    .unfold CU;split<;>exact⟨rfl,fun _=>show iw 91 by unfold iw;decide⟩
    .split
     .exact⟨rfl,fun _=>show iw 58 by unfold iw;decide⟩
     .split<;>exact⟨rfl,fun _=>show iw 58 by unfold iw;decide⟩
mutual
theorem alD[bV]:∀(s:Simple) (r:List UInt8),Tf s->iw (jy r)->Good (pcS s) r
 |.mk kind name how value list place,r,h,hr=>by
  simp only[Tf]at h;unfold pcS;split
  .split
   .exact fK (by decide) trivial
   .rename_i hn;refine⟨?_,nV hr,trivial⟩;rcases Nat.eq_zero_or_pos name.size with e|e
    .exact absurd (by apply ByteArray.ext;apply Array.toList_inj.1;exact List.eq_nil_of_length_eq_zero e) hn
    .exact e
  .rename_i k1;have hk:=h.1;split
   .rename_i k2;refine⟨?_,⟨hr.1,hr.2.1⟩,trivial⟩;rcases hk with h|h|h|h
    .exact absurd h k1
    .exact h.2
    .omega
    .omega
   .rename_i k2;split
    .rename_i k3;have h0:0<name.size:=by
      rcases hk with h|h|h|h
      .exact absurd h k1
      .exact h.2
      .omega
      .omega
     refine⟨show(46:UInt8)∈lT by decide,⟨fun e=>absurd e (by decide),fun _=>?_,fun e=>absurd e (by decide),fun e=>absurd e (by decide)⟩,⟨h0,nV hr,trivial⟩⟩;rw[nU];exact(Dx h0 _).2.2
    .rename_i k3;split
     .rename_i k4;have h0:0<name.size/\wL how:=by
       rcases hk with h|h|h|h
       .exact absurd h k1
       .omega
       .exact h.2
       .omega
      exact aaZ h0.1 h0.2 r
     .rename_i k4;have hs:Il name:=by
       rcases hk with h|h|h|h
       .exact absurd h k1
       .omega
       .exact absurd h.1 k4
       .exact h.2
      have hn:=Tq hs;split
      .have hg:=air [] (fun _ _=>trivial) (.inl rfl) list (flat [.sign 41]++r) h.2.2 (show iw 41 by unfold iw;decide);exact fK (by decide) ⟨hn.2.1,fun hu=>absurd hu hn.2.2.1,hg.append (fK (by decide) trivial)⟩
      .split
       .refine fK (by decide) ⟨hn.2.1,fun hu=>absurd hu hn.2.2.1,?_⟩;have hl:Good [yA place] (flat [.sign 41]++r):=by
         unfold yA;split
         .exact⟨show 0<sZ.size by decide,nV (show iw 41 by unfold iw;decide),trivial⟩
         .split
          .exact⟨show 0<l7.size by decide,nV (show iw 41 by unfold iw;decide),trivial⟩
          .exact⟨agJ AE,rU (by simp) (by simp) (by simp) rfl,trivial⟩
        exact hl.append (b:=[.sign 41]) (fK (by decide) trivial)
       .exact fK (by decide) ⟨hn.2.1,nV hr,trivial⟩
theorem adJ[bV]:∀(l:List Simple) (r:List UInt8),KQ l->rV l.tail->iw (jy r)->Good (OZ l) r/\(rV l->iw (jy (flat (OZ l)++r)))
 |[],r,_,_,hr=>by unfold OZ;exact⟨trivial,fun _=>hr⟩
 |s::l,r,h,ht,hr=>by simp only[KQ]at h;have ht':rV l:=ht;have ih:=adJ l r h.2 (fun x hx=>ht' x (List.mem_of_mem_tail hx)) hr;have h1:=alD s (flat (OZ l)++r) h.1 (ih.2 ht');unfold OZ;refine⟨h1.append ih.1,fun hn=>?_⟩;rw[aN,List.append_assoc];exact(Xp h.1 _).2 (hn s (by simp))
theorem ais[bV]:∀(l:List (Nat×List Simple)) (r:List UInt8),sfR l->iw (jy r)->Good (D8 l) r/\iw (jy (flat (D8 l)++r))
 |[],r,_,hr=>by unfold D8;exact⟨trivial,hr⟩
 |(b,all)::l,r,h,hr=>by
  simp only[sfR]at h;have ih:=ais l r h.2.2.2.2 hr;have hA:=(adJ all (flat (D8 l)++r) h.2.2.2.1 h.2.2.1 ih.2).1;have hF:aO (jy (flat (OZ all)++(flat (D8 l)++r)))=false:=by
   match all,h.2.1,h.2.2.2.1 with
   |s::q,_,hs=>simp only[KQ]at hs;unfold OZ;rw[aN,List.append_assoc];exact(Xp hs.1 _).1
  unfold D8 Xm;have hC:Good (Iy b) (flat (OZ all)++(flat (D8 l)++r)):=by
   rcases h.1 with rfl|rfl|rfl|rfl
   .exact⟨trivial,hF,trivial⟩
   .exact⟨trivial,show aO 62=false by decide,show(62:UInt8)∈lT by decide,pF _ (by decide),trivial,hF,trivial⟩
   .exact⟨trivial,show aO 43=false by decide,show(43:UInt8)∈lT by decide,rU (by simp) (by simp) (by simp) rfl,trivial,hF,trivial⟩
   .exact⟨trivial,show aO 126=false by decide,show(126:UInt8)∈lT by decide,pF _ (by decide),trivial,hF,trivial⟩
  refine⟨(hC.append hA).append ih.1,?_⟩;rw[aN,aN,List.append_assoc,List.append_assoc];rcases h.1 with rfl|rfl|rfl|rfl<;>exact(show iw 32 by unfold iw;decide)
theorem ait[bV]:∀(l:List (Nat×List Simple)) (r:List UInt8),sfC l->iw (jy r)->Good (D8 l) r/\aO (jy (flat (D8 l)++r))=false
 |[],_,h,_=>by simp only[sfC]at h
 |(b,all)::l,r,h,hr=>by
  simp only[sfC]at h;have ih:=ais l r h.2.2.2.2 hr;have hA:=(adJ all (flat (D8 l)++r) h.2.2.2.1 h.2.2.1 ih.2).1;have hF:aO (jy (flat (OZ all)++(flat (D8 l)++r)))=false:=by
   match all,h.2.1,h.2.2.2.1 with
   |s::q,_,hs=>simp only[KQ]at hs;unfold OZ;rw[aN,List.append_assoc];exact(Xp hs.1 _).1
  have hb:Iy b=[]:=by rw[h.1];rfl
  unfold D8 Xm;rw[hb,List.nil_append];refine⟨hA.append ih.1,?_⟩;rw[aN,List.append_assoc];exact hF
theorem air[bV](pa:List Pc)(hp:∀X,aO (jy X)=false->Good pa X)(hq:pa=[]\/∀X,jy (flat pa++X)=46):∀(l:List (List (Nat×List Simple))) (r:List UInt8),F9 l->iw (jy r)->Good (Vh pa l) r
 |[],_,_,_=>by unfold Vh;trivial
 |c::l,r,h,hr=>by simp only[F9]at h;have hT:=adK pa hp hq l r h.2 hr;have hC:=ait c (flat (uH pa l)++r) h.1 hT.2;unfold Vh;refine Good.append ?_ (hC.1.append hT.1);rw[aN,List.append_assoc];exact hp _ hC.2
theorem adK[bV](pa:List Pc)(hp:∀X,aO (jy X)=false->Good pa X)(hq:pa=[]\/∀X,jy (flat pa++X)=46):∀(l:List (List (Nat×List Simple))) (r:List UInt8),F9 l->iw (jy r)->Good (uH pa l) r/\iw (jy (flat (uH pa l)++r))
 |[],r,_,hr=>by unfold uH;exact⟨trivial,hr⟩
 |c::l,r,h,hr=>by simp only[F9]at h;have hT:=adK pa hp hq l r h.2 hr;have hC:=ait c (flat (uH pa l)++r) h.1 hT.2;unfold uH;refine⟨fK (by decide) (Good.append ?_ (hC.1.append hT.1)),show iw 44 by unfold iw;decide⟩;rw[aN,List.append_assoc];exact hp _ hC.2
end
theorem adL{w:BY}(h:∀c∈w.data.toList,c.toNat≠0):vZ w=w:=by
 apply ByteArray.ext
 apply Array.toList_inj.1
 show(w.data.toList.map zq).toArray.toList=_;rw[List.toList_toArray];exact(List.map_congr_left (fun c hc=>by unfold zq;rw[if_neg (h c hc)];rfl)).trans (List.map_id _)
end Go.Proofs.YtlliliddljkbfaaGreat.Sp
namespace Go.Proofs.YtlliliddljkbfaaGreat
open Go.Proofs.Tryz (prog)
open Go.RowKit Sp
abbrev WD:=World
abbrev Av:=Value
theorem Nm{α:Type}(a:α):∃x,Hid (a=x):=⟨_,rfl⟩
theorem hid{p:Prop}(h:p):Hid p:=h
theorem As{n:Nat}{w:World}:Below n w w:=Below.refl n w
theorem Ax{α:Type}{a:Array α}{i:Nat}{x:α}(h:a[i]?=some x):i<a.size:=(Array.getElem?_eq_some_iff.1 h).1
theorem Ay{w v u:World}(h:Below w.heap.size w v)(k:Below v.heap.size v u):Below w.heap.size w u:=h.trans (k.mono h.size)
theorem AC{w v:World}{n:Nat}{x:Obj}(k:Below w.heap.size w v)(h:w.heap[n]?=some x):v.heap[n]?=some x:=(k.block n (Ax h)).trans h
theorem Aa{p:Prop}(h:p:=by simp):p:=h
theorem Ab{p:Prop}(h:p:=by decide):p:=h
theorem Al{p:Prop}(h:p:=by (simp;omega)):p:=h
theorem An{p:Prop}(h:p:=by kernel_rfl):p:=h
theorem Ao{p:Prop}(h:p:=by (unfold maxLen;omega)):p:=h
theorem aC{a b:Bool}(h:a=b):Ending.returned (.bool a)=.returned (.bool b):=by rw[h]
theorem aiO{k:IntKind}{a b:Int}(h:a=b):Ending.returned (.int k a)=.returned (.int k b):=by rw[h]
theorem aW(c:Int)(w:WD):Calls prog 175 #[.int .i64 c] w fun e w'=>e=.returned (.bool (aO c))/\w'=w:=by
 go_in;go_wp2
 all_goals
  go_ret;exact⟨aC (by rw[Bool.eq_iff_iff];simp[aO, *]<;>omega),rfl⟩
theorem eY(c:Int)(w:WD):Calls prog 241 #[.int .i64 c] w fun e w'=>e=.returned (.bool (fG c))/\w'=w:=by
 go_in;go_wp2
 all_goals
  go_ret;exact⟨aC (by rw[Bool.eq_iff_iff];simp[fG, *]<;>omega),rfl⟩
theorem oM(c:Int)(w:WD):Calls prog 243 #[.int .i64 c] w fun e w'=>e=.returned (.bool (kK c))/\w'=w:=by
 go_in;go_wp2
 all_goals
  go_ret;exact⟨aC (by rw[Bool.eq_iff_iff];simp[kK, *]<;>omega),rfl⟩
theorem gB(c:Int)(w:WD):Calls prog 240 #[.int .i64 c] w fun e w'=>e=.returned (.bool (ou c))/\w'=w:=by
 go_in;go_wp2
 all_goals
  go_ret;exact⟨aC (by rw[Bool.eq_iff_iff];simp[ou, *]<;>omega),rfl⟩
theorem fH(c:Int)(w:WD):Calls prog 177 #[.int .i64 c] w fun e w'=>e=.returned (.bool (dD c))/\w'=w:=by
 go_in;go_wp2
 all_goals
  go_ret;exact⟨aC (by rw[Bool.eq_iff_iff];simp[dD, *]<;>omega),rfl⟩
theorem nC(c:Int)(w:WD):Calls prog 237 #[.int .i64 c] w fun e w'=>e=.returned (.bool (lX c))/\w'=w:=by
 cases h1:kK c<;>cases h2:fG c
 all_goals
  go_in;go_wp2_with(first|(go_at_call 243;refine(oM _ _).mono ?_;rintro e w' ⟨rfl,rfl⟩)|(go_at_call 241;refine(eY _ _).mono ?_;rintro e w' ⟨rfl,rfl⟩));go_ret;exact⟨aC (by simp[lX,h1,h2]),rfl⟩
theorem BI(c:Int)(w:WD):Calls prog 291 #[.int .i64 c] w fun e w'=>e=.returned (.bool (Eb c))/\w'=w:=by
 cases h1:dD c;all_goals
  go_in;go_wp2_with(go_at_call 177;refine(fH _ _).mono ?_;rintro e w' ⟨rfl,rfl⟩);all_goals
   go_ret;exact⟨aC (by rw[Bool.eq_iff_iff];simp[Eb, *]<;>omega),rfl⟩
theorem Ag(c:Int)(w:WD)(h0: -1<=c)(h9:c<=255):Calls prog 287 #[.int .i64 c] w fun e w'=>e=.returned (.int .i64 (xk c))/\w'=w:=by
 cases h1:fG c;all_goals
  go_in;go_wp2_with(go_at_call 241;refine(eY _ _).mono ?_;rintro e w' ⟨rfl,rfl⟩);all_goals
   go_ret;exact⟨aiO (by simp[xk, *]<;>omega),rfl⟩
section
structure Turn(b:Nat)(w w':WD):Prop where
 os:w'.os=w.os
 tape:w'.tape=w.tape
 output:w'.output=w.output
 size:w.heap.size<=w'.heap.size
 block:∀k,k<w.heap.size->k≠b->w'.heap[k]?=w.heap[k]?
theorem Turn.refl(b:Nat)(w:WD):Turn b w w:=⟨rfl,rfl,rfl,Nat.le_refl _,fun _ _ _=>rfl⟩
theorem Turn.trans{b:Nat}{x y z:WD}(h:Turn b x y)(k:Turn b y z):Turn b x z:=⟨k.os.trans h.os,k.tape.trans h.tape,k.output.trans h.output,Nat.le_trans h.size k.size,fun i hi hb=>(k.block i (Nat.lt_of_lt_of_le hi h.size) hb).trans (h.block i hi hb)⟩
theorem Turn.drewN{b:Nat}{x y:WD}(h:Turn b x y)(n:Nat):Turn b x (y.drewN n):=⟨h.os,h.tape,h.output,h.size,h.block⟩
theorem Turn.alloc{b:Nat}{x y:WD}(h:Turn b x y)(o:Obj):Turn b x (y.alloc o):=h.trans ⟨rfl,rfl,rfl,by simp,fun k hk _=>Below.heap_alloc _ _ _ hk⟩
theorem Turn.setCell{b:Nat}{x y:WD}(h:Turn b x y)(o:Nat)(v:Av):Turn b x (y.setCell ⟨b,o,none⟩ v):=h.trans ⟨rfl,rfl,rfl,by simp[World.setCell],fun k _ hb=>Below.heap_setCell _ _ _ _ hb⟩
theorem Turn.below{b B:Nat}{x y:WD}(h:Turn b x y)(hB:B<=b)(hx:B<=x.heap.size):Below B x y:=⟨h.os,h.tape,h.output,h.size,fun k hk=>h.block k (by omega) (by omega)⟩
theorem Turn.of_below{b:Nat}{x y:WD}(h:Below x.heap.size x y):Turn b x y:=⟨h.os,h.tape,h.output,h.size,fun k hk _=>h.block k hk⟩
structure Sc(w:WD)(b:Nat)(s:BY)(i:Nat):Prop where
 blk:w.heap[b]?=some (.cells #[.string s,.int .i64 (i:Int)] 201 (0,0))
 glob:∃m,w.cell? ⟨0,0,none⟩=some (.int .i64 m)
 pos:0<b
 len:s.size<=600
 le:i<=s.size
section
variable {w:WD} {b:Nat} {s:BY} {i:Nat}
theorem Sc.lt(h:Sc w b s i):b<w.heap.size:=by
 by_cases h1:b<w.heap.size
 .exact h1
 .have:=h.blk;rw[Array.getElem?_eq_none (by omega)]at this;cases this
theorem Sc.c0(h:Sc w b s i):w.cell? ⟨b,0,none⟩=some (.string s):=by unfold World.cell?;rw[h.blk];rfl
theorem Sc.c1(h:Sc w b s i):w.cell? ⟨b,1,none⟩=some (.int .i64 (i:Int)):=by unfold World.cell?;rw[h.blk];rfl
theorem Sc.f1(h:Sc w b s i):w.frozen? ⟨b,1,none⟩=false:=by unfold World.frozen?;rw[h.blk];rfl
theorem Sc.drewN(h:Sc w b s i)(n:Nat):Sc (w.drewN n) b s i:=⟨h.blk,h.glob,h.pos,h.len,h.le⟩
theorem Sc.set(h:Sc w b s i)(j:Nat)(hj:j<=s.size):Sc (w.setCell ⟨b,1,none⟩ (.int .i64 (j:Int))) b s j:=by
 refine⟨?_,?_,h.pos,h.len,hj⟩
 .simp only[World.setCell,Array.getElem?_modify,h.blk];simp
 .obtain⟨m,hm⟩:=h.glob;exact⟨m,by rw[<-hm];exact World.cell?_of_block (w:=w) (Below.heap_setCell _ _ _ _ (by have:=h.pos;show(0:Nat)≠b;omega))⟩
theorem Sc.alloc(h:Sc w b s i)(o:Obj):Sc (w.alloc o) b s i:=by
 have hl:=h.lt;refine⟨?_,?_,h.pos,h.len,h.le⟩
 .rw[Below.heap_alloc _ _ _ hl];exact h.blk
 .obtain⟨m,hm⟩:=h.glob;exact⟨m,by rw[<-hm];exact World.cell?_of_block (w:=w) (Below.heap_alloc _ _ _ (by show 0<w.heap.size;have:=h.pos;omega))⟩
end
theorem gQ(s:BY)(i:Nat)(h:i<s.size)(w:WD):(Instr.index 9 (.string s) (.int .i64 (i:Int))).run prog w=.ok (.int .u8 (pk s i)) w:=by rw[run_index_string w 9 s .i64 i Tryz.underlying9,dif_pos ⟨by omega,by omega⟩,zK h];simp
theorem afP(s:BY)(i:Nat):IntKind.i64.wrap (pk s i)=pk s i:=by have:=abT s i;have:=Yj s i;rw[IntKind.wrap_i64];omega
theorem ak(s:BY)(b i:Nat)(a:Int)(k:Nat)(w:WD)(h:Sc w b s i)(ha:0<=a/\a<=10/\(i:Int)+a=k):
  Calls prog 113 #[.pointer (some ⟨b,0,none⟩),.int .i64 a] w fun e w'=>e=.returned (.int .i64 (pk s k))/\∃n,w'=w.drewN n:=by
 have h0:=h.c0;have h1:=h.c1;have hs:=h.len;have hi:=h.le;clear h;obtain⟨n,rfl⟩:=Int.eq_ofNat_of_zero_le ha.1;obtain rfl:k=i+n:=by omega
 have ha':n<=10:=by omega
 clear ha;by_cases hlt:i+n<s.size
 .have hix:=gQ s (i+n) hlt;have hw1:IntKind.i64.wrap ((i:Int)+(n:Int))=((i+n:Nat):Int):=by rw[IntKind.wrap_i64];omega
  have hw2:=afP s (i+n);simp only[Int.natCast_add]at hix hw1;go_in;go_wp2
  go_quiet (fail)
  go_wp2
  go_quiet (fail)
  go_wp2
  go_ret;exact⟨rfl,_,World.drewN_drewN _ _ _⟩
 .rw[oK (by omega)];go_in;go_wp2
  go_quiet (fail)
  go_wp2
  go_ret;exact⟨rfl,_,rfl⟩
theorem fA(s:BY)(b i:Nat)(a:Int)(k:Nat)(w:WD)(h:Sc w b s i)(ha:0<=a/\a<=9/\(i:Int)+a=k):
  Calls prog 238 #[.pointer (some ⟨b,0,none⟩),.int .i64 a] w fun e w'=>e=.returned (.bool (kY s k))/\∃n,w'=w.drewN n:=by
 have g0:=ha.1;have g1:=ha.2.1;have HA:=hid ha.2.2;clear ha;cases h92:(pk s k==92)
 .have HV:Hid (kY s k=false):=by show kY s k=false;simp[kY,h92]
  go_in;go_wp2_with fail;refine(ak s b i _ k _ h ⟨by omega,by omega,by have:=HA.out;omega⟩).mono ?_;rintro e w1 ⟨rfl,n1,rfl⟩;go_wp2_with fail;go_ret;exact⟨aC HV.out.symm,_,rfl⟩
 .have HV:Hid (kY s k=(pk s (k+1) != 10)):=by show kY s k=_;simp[kY,h92]
  go_in;go_wp2_with fail;refine(ak s b i _ k _ h ⟨by omega,by omega,by have:=HA.out;omega⟩).mono ?_;rintro e w1 ⟨rfl,n1,rfl⟩;go_wp2_with fail;refine(ak s b i _ (k+1) _ (h.drewN _) ⟨by omega,by omega,by have:=HA.out;omega⟩).mono ?_;rintro e w1 ⟨rfl,n2,rfl⟩;go_wp2_with fail;go_ret;exact⟨aC HV.out.symm,_,rfl⟩
theorem kZ(s:BY)(b i:Nat)(a:Int)(k:Nat)(w:WD)(h:Sc w b s i)(ha:0<=a/\a<=9/\(i:Int)+a=k):
  Calls prog 179 #[.pointer (some ⟨b,0,none⟩),.int .i64 a] w fun e w'=>e=.returned (.bool (jT s k))/\∃n,w'=w.drewN n:=by
 have g0:=ha.1;have g1:=ha.2.1;have HA:=hid ha.2.2;clear ha;cases hn:lX (pk s k)
 .have HV:Hid (jT s k=kY s k):=by show jT s k=_;simp[jT,hn]
  go_in;go_wp2_with fail;refine(ak s b i _ k _ h ⟨by omega,by omega,by have:=HA.out;omega⟩).mono ?_;rintro e w1 ⟨rfl,n1,rfl⟩;go_wp2_with fail;refine(nC _ _).mono ?_;rintro e w1 ⟨rfl,rfl⟩;go_wp2_with fail;refine(fA s b i _ k _ (h.drewN _) ⟨by omega,by omega,by have:=HA.out;omega⟩).mono ?_;rintro e w1 ⟨rfl,n2,rfl⟩;go_wp2_with fail;go_ret;exact⟨aC (by rw[HV.out]),_,rfl⟩
 .have HV:Hid (jT s k=true):=by show jT s k=_;simp[jT,hn]
  go_in;go_wp2_with fail;refine(ak s b i _ k _ h ⟨by omega,by omega,by have:=HA.out;omega⟩).mono ?_;rintro e w1 ⟨rfl,n1,rfl⟩;go_wp2_with fail;refine(nC _ _).mono ?_;rintro e w1 ⟨rfl,rfl⟩;go_wp2_with fail;go_ret;exact⟨aC HV.out.symm,_,rfl⟩
theorem fP(s:BY)(b i:Nat)(a:Int)(k:Nat)(w:WD)(h:Sc w b s i)(ha:0<=a/\a<=8/\(i:Int)+a=k):
  Calls prog 183 #[.pointer (some ⟨b,0,none⟩),.int .i64 a] w fun e w'=>e=.returned (.bool (iG s k))/\∃n,w'=w.drewN n:=by
 have g0:=ha.1;have g1:=ha.2.1;have HA:=hid ha.2.2;clear ha;cases h45:(pk s k==45)
 .have n45:¬pk s k=45:=by simpa using h45
  cases hl:kK (pk s k)
  .have HV:Hid (iG s k=kY s k):=by show iG s k=_;simp[iG,n45,hl]
   clear n45;go_in;go_wp2_with fail;refine(ak s b i _ k _ h ⟨by omega,by omega,by have:=HA.out;omega⟩).mono ?_;rintro e w1 ⟨rfl,n1,rfl⟩;go_wp2_with fail;refine(ak s b i _ k _ (h.drewN _) ⟨by omega,by omega,by have:=HA.out;omega⟩).mono ?_;rintro e w1 ⟨rfl,n2,rfl⟩;go_wp2_with fail;refine(oM _ _).mono ?_;rintro e w1 ⟨rfl,rfl⟩;go_wp2_with fail;refine(fA s b i _ k _ (h.drewN _) ⟨by omega,by omega,by have:=HA.out;omega⟩).mono ?_;rintro e w1 ⟨rfl,n3,rfl⟩;go_wp2_with fail;go_ret;exact⟨aC (by rw[HV.out]),_,rfl⟩
  .have HV:Hid (iG s k=true):=by show iG s k=_;simp[iG,n45,hl]
   clear n45;go_in;go_wp2_with fail;refine(ak s b i _ k _ h ⟨by omega,by omega,by have:=HA.out;omega⟩).mono ?_;rintro e w1 ⟨rfl,n1,rfl⟩;go_wp2_with fail;refine(ak s b i _ k _ (h.drewN _) ⟨by omega,by omega,by have:=HA.out;omega⟩).mono ?_;rintro e w1 ⟨rfl,n2,rfl⟩;go_wp2_with fail;refine(oM _ _).mono ?_;rintro e w1 ⟨rfl,rfl⟩;go_wp2_with fail;go_ret;exact⟨aC HV.out.symm,_,rfl⟩
 .have n45:pk s k=45:=by simpa using h45
  cases hl:kK (pk s (k+1))
  .cases hd:(pk s (k+1)==45)
   .have HV:Hid (iG s k=kY s (k+1)):=by show iG s k=_;simp[iG,n45,hl,hd]
    clear n45;go_in;go_wp2_with fail;refine(ak s b i _ k _ h ⟨by omega,by omega,by have:=HA.out;omega⟩).mono ?_;rintro e w1 ⟨rfl,n1,rfl⟩;go_wp2_with fail;refine(ak s b i _ (k+1) _ (h.drewN _) ⟨by omega,by omega,by have:=HA.out;omega⟩).mono ?_;rintro e w1 ⟨rfl,n2,rfl⟩;go_wp2_with fail;refine(oM _ _).mono ?_;rintro e w1 ⟨rfl,rfl⟩;go_wp2_with fail;refine(fA s b i _ (k+1) _ (h.drewN _) ⟨by omega,by omega,by have:=HA.out;omega⟩).mono ?_;rintro e w1 ⟨rfl,n3,rfl⟩;go_wp2_with fail;go_ret;exact⟨aC (by rw[HV.out]),_,rfl⟩
   .have HV:Hid (iG s k=true):=by show iG s k=_;simp[iG,n45,hl,hd]
    clear n45;go_in;go_wp2_with fail;refine(ak s b i _ k _ h ⟨by omega,by omega,by have:=HA.out;omega⟩).mono ?_;rintro e w1 ⟨rfl,n1,rfl⟩;go_wp2_with fail;refine(ak s b i _ (k+1) _ (h.drewN _) ⟨by omega,by omega,by have:=HA.out;omega⟩).mono ?_;rintro e w1 ⟨rfl,n2,rfl⟩;go_wp2_with fail;refine(oM _ _).mono ?_;rintro e w1 ⟨rfl,rfl⟩;go_wp2_with fail;go_ret;exact⟨aC HV.out.symm,_,rfl⟩
  .have HV:Hid (iG s k=true):=by show iG s k=_;simp[iG,n45,hl]
   clear n45;go_in;go_wp2_with fail;refine(ak s b i _ k _ h ⟨by omega,by omega,by have:=HA.out;omega⟩).mono ?_;rintro e w1 ⟨rfl,n1,rfl⟩;go_wp2_with fail;refine(ak s b i _ (k+1) _ (h.drewN _) ⟨by omega,by omega,by have:=HA.out;omega⟩).mono ?_;rintro e w1 ⟨rfl,n2,rfl⟩;go_wp2_with fail;refine(oM _ _).mono ?_;rintro e w1 ⟨rfl,rfl⟩;go_wp2_with fail;go_ret;exact⟨aC HV.out.symm,_,rfl⟩
theorem dn(s:BY)(b i:Nat)(w:WD)(h:Sc w b s i):
  Calls prog 181 #[.pointer (some ⟨b,0,none⟩)] w fun e w'=>e=.returned (.bool (iO s i))/\∃n,w'=w.drewN n:=by
 cases hsg:ou (pk s i)
 .have hk:mX s i=i:=by simp[mX,hsg]
  cases h46:(pk s i==46);focus
   have HV:Hid (iO s i=fG (pk s i)):=by show iO s i=_;simp[iO,hk,h46]
   clear hk;go_in;go_wp2_with fail;refine(ak s b i _ i _ h ⟨by omega,by omega,by omega⟩).mono ?_;rintro e w1 ⟨rfl,n1,rfl⟩;go_wp2_with fail;refine(gB _ _).mono ?_;rintro e w1 ⟨rfl,rfl⟩;go_wp2_with fail;refine(ak s b i _ i _ (h.drewN _) ⟨by omega,by omega,by omega⟩).mono ?_;rintro e w1 ⟨rfl,n2,rfl⟩;go_wp2_with fail;refine(ak s b i _ i _ (h.drewN _) ⟨by omega,by omega,by omega⟩).mono ?_
  rotate_left;focus
   have HV:Hid (iO s i=fG (pk s (i+1))):=by
    have e:pk s i=46:=by simpa using h46
    show iO s i=_;rw[iO,hk,e];simp[fG]
   clear hk;go_in;go_wp2_with fail;refine(ak s b i _ i _ h ⟨by omega,by omega,by omega⟩).mono ?_;rintro e w1 ⟨rfl,n1,rfl⟩;go_wp2_with fail;refine(gB _ _).mono ?_;rintro e w1 ⟨rfl,rfl⟩;go_wp2_with fail;refine(ak s b i _ i _ (h.drewN _) ⟨by omega,by omega,by omega⟩).mono ?_;rintro e w1 ⟨rfl,n2,rfl⟩;go_wp2_with fail;refine(ak s b i _ (i+1) _ (h.drewN _) ⟨by omega,by omega,by omega⟩).mono ?_
  rotate_left;all_goals
   rintro e w1 ⟨rfl,n3,rfl⟩;go_wp2_with fail;refine(eY _ _).mono ?_;rintro e w1 ⟨rfl,rfl⟩;go_wp2_with fail;go_ret;exact⟨aC HV.out.symm,_,rfl⟩
 .have hk:mX s i=i+1:=by simp[mX,hsg]
  cases h46:(pk s (i+1)==46);focus
   have HV:Hid (iO s i=fG (pk s (i+1))):=by show iO s i=_;simp[iO,hk,h46]
   clear hk;go_in;go_wp2_with fail;refine(ak s b i _ i _ h ⟨by omega,by omega,by omega⟩).mono ?_;rintro e w1 ⟨rfl,n1,rfl⟩;go_wp2_with fail;refine(gB _ _).mono ?_;rintro e w1 ⟨rfl,rfl⟩;go_wp2_with fail;refine(ak s b i _ (i+1) _ (h.drewN _) ⟨by omega,by omega,by omega⟩).mono ?_;rintro e w1 ⟨rfl,n2,rfl⟩;go_wp2_with fail;refine(ak s b i _ (i+1) _ (h.drewN _) ⟨by omega,by omega,by omega⟩).mono ?_
  rotate_left;focus
   have HV:Hid (iO s i=fG (pk s (i+2))):=by
    have e:pk s (i+1)=46:=by simpa using h46
    show iO s i=_;rw[iO,hk,e];simp[fG]
   clear hk;go_in;go_wp2_with fail;refine(ak s b i _ i _ h ⟨by omega,by omega,by omega⟩).mono ?_;rintro e w1 ⟨rfl,n1,rfl⟩;go_wp2_with fail;refine(gB _ _).mono ?_;rintro e w1 ⟨rfl,rfl⟩;go_wp2_with fail;refine(ak s b i _ (i+1) _ (h.drewN _) ⟨by omega,by omega,by omega⟩).mono ?_;rintro e w1 ⟨rfl,n2,rfl⟩;go_wp2_with fail;refine(ak s b i _ (i+2) _ (h.drewN _) ⟨by omega,by omega,by omega⟩).mono ?_
  rotate_left;all_goals
   rintro e w1 ⟨rfl,n3,rfl⟩;go_wp2_with fail;refine(eY _ _).mono ?_;rintro e w1 ⟨rfl,rfl⟩;go_wp2_with fail;go_ret;exact⟨aC HV.out.symm,_,rfl⟩
theorem FT{P:Program}{ops:Array Oper}{Q:Exit->Act->WD->Prop}{md:Region.Mode}(i:Nat){oi:Oper}{v:Av}{fuel:Nat}{listed:Array Bool}{a a':Act}{w:WD}
  (h:wpAny P md ops Q fuel (listed.setIfInBounds i true) a' w) (hi:ops[i]?=some oi:=by rfl) (hs:Region.noSelect ops=true:=by kernel_rfl) (hf:Region.free md ops listed i=true:=by kernel_rfl) (hr:(Region.ready md ops listed).contains i=true:=by kernel_rfl)
  (hw:Region.wanted oi (yielded ops a.tmps)=true:=by kernel_rfl) (hy:∀w,(execOp a.eval oi).run P w=.ok (.value v) w:=by intro w;go_simp;all_goals with_reducible rfl)
  (hQ:∀c a w,Q (.panic c) (a.put oi.dst v) w->Q (.panic c) a w:=by exact fun _ _ _ h=>h)
  (ha:a.put oi.dst v=a':=by(try simp only[List.getElem_toArray]);(try simp only[List.getElem_cons_succ]);(try simp only[List.getElem_cons_zero]);(try simp only[Act.put]);(try simp only[List.setIfInBounds_toArray]);(try simp only[List.set_cons_succ]);(try simp only[List.set_cons_zero]);all_goals with_reducible rfl):wpAny P md ops Q (fuel+1) listed a w:=by
 subst ha;exact wpAny_take hi hs hf hr hQ (Or.inl ⟨hw,hy⟩) h
theorem dH{P:Program}{ops:Array Oper}{Q:Exit->Act->WD->Prop}{md:Region.Mode}{S:WD->Prop}(i:Nat){oi:Oper}{v:Av}{fuel:Nat}{listed:Array Bool}{a a':Act}{w:WD}
  (hi:ops[i]?=some oi) (hS:S w) (hy:∀w,S w->(execOp a.eval oi).run P w=.ok (.value v) w) (h:wpAnyH P md ops Q S fuel (listed.setIfInBounds i true) a' w) (hs:Region.noSelect ops=true:=by kernel_rfl) (hf:Region.free md ops listed i=true:=by kernel_rfl) (hr:(Region.ready md ops listed).contains i=true:=by kernel_rfl)
  (hw:Region.wanted oi (yielded ops a.tmps)=true:=by kernel_rfl)
  (hQ:∀c a w,Q (.panic c) (a.put oi.dst v) w->Q (.panic c) a w:=by exact fun _ _ _ h=>h)
  (ha:a.put oi.dst v=a':=by(try simp only[List.getElem_toArray]);(try simp only[List.getElem_cons_succ]);(try simp only[List.getElem_cons_zero]);(try simp only[Act.put]);(try simp only[List.setIfInBounds_toArray]);(try simp only[List.set_cons_succ]);(try simp only[List.set_cons_zero]);all_goals with_reducible rfl):wpAnyH P md ops Q S (fuel+1) listed a w:=by
 subst ha;exact wpAnyH_take hi hs hf hr hQ (Or.inl ⟨hw,hy⟩) hS h
theorem Qp{P:Program}{ops:Array Oper}{Q:Exit->Act->WD->Prop}{md:Region.Mode}{S:WD->Prop}(i:Nat){oi:Oper}{v:Av}{fuel:Nat}{listed:Array Bool}{a a':Act}{w:WD}
  (hi:ops[i]?=some oi) (hS:S w) (hy:∀w,S w->(execOp a.eval oi).run P w=.ok (.value v) w) (h:wpAnyH P md ops Q S fuel (listed.setIfInBounds i true) a' w) (hs:Region.noSelect ops=true:=by kernel_rfl) (hf:Region.free md ops listed i=true:=by kernel_rfl) (hr:(Region.ready md ops listed).contains i=true:=by kernel_rfl)
  (hw:Region.wanted oi (yielded ops a.tmps)=true:=by kernel_rfl)
  (hQ:∀c a w,Q (.panic c) (a.put oi.dst v) w->Q (.panic c) a w:=by exact fun _ _ _ h=>h)
  (ha:a.put oi.dst v=a':=by(try simp only[Act.put,List.setIfInBounds_toArray,List.set_cons_zero,List.set_cons_succ]);all_goals with_reducible rfl):wpAnyH P md ops Q S (fuel+1) listed a w:=by
 subst ha;exact wpAnyH_take hi hs hf hr hQ (Or.inl ⟨hw,hy⟩) hS h
theorem brA{P:Program}{ops:Array Oper}{Q:Exit->Act->WD->Prop}{md:Region.Mode}(i:Nat){o:Oper}{fuel:Nat}{listed:Array Bool}{a:Act}{w:WD}
  (h:∀K':Act->WD->Prop,(∀a w,wpAny P md ops Q fuel (listed.setIfInBounds i true) a w->K' a w)->if Region.wanted o (yielded ops a.tmps)=true then Oper.wp P o a w K' Q else K' (a.put o.dst undef) w)
  (ho:ops[i]?=some o:=by rfl) (hr:Region.ready md ops listed=[i]:=by kernel_rfl):wpAny P md ops Q (fuel+1) listed a w:=
 wpAny_ready hr Aa (AllReady.cons ho h AllReady.nil)
theorem iW{P:Program}{ops:Array Oper}{Q:Exit->Act->WD->Prop}{md:Region.Mode}{S:WD->Prop}(i:Nat){o:Oper}{fuel:Nat}{listed:Array Bool}{a:Act}{w:WD}
  (h:∀K':Act->WD->Prop,Shut (∀a w,S w->(S w->wpAnyH P md ops Q S fuel (listed.setIfInBounds i true) a w)->K' a w)->if Region.wanted o (yielded ops a.tmps)=true then Oper.wp P o a w K' Q else K' (a.put o.dst undef) w)
  (ho:ops[i]?=some o:=by rfl) (hr:Region.ready md ops listed=[i]:=by kernel_rfl):wpAnyH P md ops Q S (fuel+1) listed a w:=
 wpAnyH_ready hr Aa (AllReadyH.cons ho h AllReadyH.nil)
theorem jA{P:Program}{f:FuncId}{args:Array Av}{w w2:WD}{v:Av}{Q:Ending->WD->Prop}(h:Calls P f args w fun e w'=>e=.returned v/\w'=w2)(k:Q (.returned v) w2):Calls P f args w Q:=h.mono fun _ _ ⟨he,hw⟩=>by rw[he,hw];exact k
theorem cZ{α:Type}{P:Program}{f:FuncId}{args:Array Av}{w:WD}{w2:α->WD}{v:Av}{Q:Ending->WD->Prop}(h:Calls P f args w fun e w'=>e=.returned v/\∃n,w'=w2 n)(k:∀n,Q (.returned v) (w2 n)):Calls P f args w Q:=h.mono fun _ _ ⟨he,n,hw⟩=>by rw[he,hw];exact k n
theorem pmb{P:Program}{f:FuncId}{args:Array Av}{w:WD}{R:WD->Prop}{v:Av}{Q:Ending->WD->Prop}(h:Calls P f args w fun e w'=>e=.returned v/\R w')(k:∀w',R w'->Q (.returned v) w'):Calls P f args w Q:=h.mono fun _ w' ⟨he,hw⟩=>by rw[he];exact k w' hw
theorem gs{p:Prop}(h:p:=by go_simp;all_goals with_reducible rfl):p:=h
theorem oa{p:Prop}(h:p:=by first|omega|(simp only[ByteArray.size_append];omega)):p:=h
theorem oo{p:Prop}(h:p:=by omega):p:=h
theorem nl{n:Nat}:n<=n:=Nat.le_refl n
theorem _root_.Go.RowKit.Hid.o{p:Prop}(h:Hid p):p:=h
theorem _root_.Go.Aside.o{p:Prop}(h:Aside p):p:=h
theorem _root_.Go.Shut.o{p:Prop}(h:Shut p):p:=h
end
section
theorem fC(a:BY):a.toList=a.data.toList:=by simp[ByteArray.toList_eq]
theorem bytes_beq(a b:BY):(a.toList==b.toList)=decide (a=b):=by
 rw[Bool.eq_iff_iff,beq_iff_eq,decide_eq_true_iff,fC,fC];constructor
 .intro h;exact ByteArray.ext (Array.toList_inj.1 h)
 .rintro rfl;rfl
theorem ay(a:BY)(l:List UInt8):(a.toList==l)=decide (a=⟨l.toArray⟩):=by rw[<-bytes_beq a ⟨l.toArray⟩,fC ⟨l.toArray⟩]
def fB(t:Tok)(kv:Av):Av:=.agg #[.int .i64 t.kind,.string t.word,.string t.unit,kv]
mutual
def BO(S:Nat->Prop)(w:WD):Nd->Nat->Nat->Prop
 |.mk t k,g,o=>(S g/\dI t)/\w.cell? ⟨g,o,none⟩=some (.int .i64 t.kind)/\w.cell? ⟨g,o+1,none⟩=some (.string t.word)/\w.cell? ⟨g,o+2,none⟩=some (.string t.unit) /\
   ∃(a:Option Addr) (cap:Nat),w.cell? ⟨g,o+3,none⟩=some (.slice a k.length cap)/\(k.length<=cap/\k.length<=600)/\(k≠[]->∃g' o',a=some ⟨g',o',none⟩/\gq S w k g' o')
def gq(S:Nat->Prop)(w:WD):List Nd->Nat->Nat->Prop
 |[],_,_=>True
 |n::r,g,o=>BO S w n g o/\gq S w r g (o+4)
end
def Sl(S:Nat->Prop)(w:WD)(v:Av)(ns:List Nd):Prop:=∃(a:Option Addr) (cap:Nat),v=.slice a ns.length cap/\(ns.length<=cap/\ns.length<=600)/\(ns≠[]->∃g o,a=some ⟨g,o,none⟩/\gq S w ns g o)
section
variable {S S':Nat->Prop} {w w':WD}
theorem MB(t:Tok)(k:List Nd)(g o:Nat):BO S w (.mk t k) g o↔(S g/\dI t)/\w.cell? ⟨g,o,none⟩=some (.int .i64 t.kind)/\w.cell? ⟨g,o+1,none⟩=some (.string t.word)/\w.cell? ⟨g,o+2,none⟩=some (.string t.unit) /\
  ∃kv,w.cell? ⟨g,o+3,none⟩=some kv/\Sl S w kv k:=by
 unfold BO Sl;constructor
 .rintro ⟨h0,h1,h2,h3,a,cap,h4,h5⟩;exact⟨h0,h1,h2,h3,_,h4,a,cap,rfl,h5⟩
 .rintro ⟨h0,h1,h2,h3,kv,h4,a,cap,rfl,h5⟩;exact⟨h0,h1,h2,h3,a,cap,h4,h5⟩
mutual
theorem BO.keep(hS:∀g,S g->S' g)(hw:∀g,S g->w'.heap[g]?=w.heap[g]?):∀(n:Nd) (g o:Nat),BO S w n g o->BO S' w' n g o
 |.mk t k,g,o,h=>by unfold BO at h⊢;obtain⟨⟨h0,hok⟩,h1,h2,h3,a,cap,h4,hc,h5⟩:=h;have e:∀x,w'.cell? ⟨g,x,none⟩=w.cell? ⟨g,x,none⟩:=fun x=>World.cell?_of_block (w:=w) (hw g h0);refine⟨⟨hS g h0,hok⟩,by rw[e];exact h1,by rw[e];exact h2,by rw[e];exact h3,a,cap,by rw[e];exact h4,hc,fun hk=>?_⟩;obtain⟨g',o',h6,h7⟩:=h5 hk;exact⟨g',o',h6,gq.keep hS hw k g' o' h7⟩
theorem gq.keep(hS:∀g,S g->S' g)(hw:∀g,S g->w'.heap[g]?=w.heap[g]?):∀(l:List Nd) (g o:Nat),gq S w l g o->gq S' w' l g o
 |[],_,_,_=>by simp[gq]
 |n::r,g,o,h=>by unfold gq at h⊢;exact⟨BO.keep hS hw n g o h.1,gq.keep hS hw r g (o+4) h.2⟩
end
theorem Sl.keep{v:Av}{ns:List Nd}(h:Sl S w v ns)(hS:∀g,S g->S' g)(hw:∀g,S g->w'.heap[g]?=w.heap[g]?):Sl S' w' v ns:=by obtain⟨a,cap,h1,hc,h2⟩:=h;refine⟨a,cap,h1,hc,fun hn=>?_⟩;obtain⟨g,o,h3,h4⟩:=h2 hn;exact⟨g,o,h3,h4.keep hS hw⟩
theorem Sl.nil(S:Nat->Prop)(w:WD):Sl S w (.slice none 0 0) []:=⟨none,0,rfl,by simp,fun h=>absurd rfl h⟩
theorem Sl.len{v:Av}{ns:List Nd}(h:Sl S w v ns):ns.length<=600:=by obtain⟨_,_,_,hc,_⟩:=h;exact hc.2
theorem Sl.below{B B':Nat}{v:Av}{ns:List Nd}(h:Sl (fun b=>b<B) w v ns)(hb:Below B' w w')(hB:B<=B'):Sl (fun b=>b<B) w' v ns:=h.keep (fun _ hg=>hg) fun g hg=>hb.block g (Nat.lt_of_lt_of_le hg hB)
theorem gq.at:∀(l:List Nd) (g o i:Nat) (_:gq S w l g o) (hi:i<l.length),BO S w l[i] g (o+i*4)
 |n::r,g,o,0,h,_=>by unfold gq at h;simpa using h.1
 |n::r,g,o,i+1,h,hi=>by unfold gq at h;have:=gq.at r g (o+4) i h.2 (by simpa using hi);rw[show o+(i+1)*4=o+4+i*4 from by omega];simpa using this
theorem gq.drop:∀(l:List Nd) (g o i:Nat) (_:gq S w l g o),gq S w (l.drop i) g (o+i*4)
 |l,g,o,0,h=>by simpa using h
 |[],g,o,i+1,h=>by simp[gq]
 |n::r,g,o,i+1,h=>by unfold gq at h;rw[show o+(i+1)*4=o+4+i*4 from by omega];simpa using gq.drop r g (o+4) i h.2
theorem gq.take:∀(l:List Nd) (g o i:Nat) (_:gq S w l g o),gq S w (l.take i) g o
 |l,g,o,0,h=>by simp[gq]
 |[],g,o,i+1,h=>by simp[gq]
 |n::r,g,o,i+1,h=>by unfold gq at h;simp only[List.take_succ_cons];unfold gq;exact⟨h.1,gq.take r g (o+4) i h.2⟩
end
theorem Sl.cut{S:Nat->Prop}{w:WD}{a:Option Addr}{n cap:Nat}{ns:List Nd}(h:Sl S w (.slice a n cap) ns)(i j:Nat)(hij:i<=j)(hj:j<=ns.length):Sl S w (sliced a i j cap 4) ((ns.take j).drop i):=by
 obtain⟨a',cap',h1,⟨hc,h6⟩,h2⟩:=h;cases h1;unfold sliced;have hl:((ns.take j).drop i).length=j-i:=by simp;omega
 refine⟨_,cap-i,by rw[hl],⟨oo,oo⟩,fun hn=>?_⟩;have hne:ns≠[]:=by rintro rfl;simp at hn
 have hlt:i<j:=by
  by_cases e:i<j
  .exact e
  .exact absurd (List.eq_nil_of_length_eq_zero oo) hn
 obtain⟨g,o,rfl,h4⟩:=h2 hne;refine⟨g,o+i*4,?_,(h4.take ns g o j).drop _ g o i⟩;rw[if_neg oo];simp[Addr.add]
theorem Sl.iE(S:Nat->Prop)(w:WD)(a:Option Addr)(c:Nat):Sl S w (.slice a 0 c) []:=⟨a,c,rfl,⟨by simp,by simp⟩,fun h=>absurd rfl h⟩
theorem Sl.tail{S:Nat->Prop}{w:WD}{g o n cap:Nat}{x:Nd}{r:List Nd}(h:Sl S w (.slice (some ⟨g,o,none⟩) n cap) (x::r)):Sl S w (.slice (some ⟨g,o+4,none⟩) r.length (cap-1)) r:=by obtain⟨a',cap',h1,⟨hc,h6⟩,h2⟩:=h;cases h1;simp only[List.length_cons]at hc h6;refine⟨_,cap-1,rfl,⟨oo,oo⟩,fun _=>?_⟩;obtain⟨g',o',e,h4⟩:=h2 Aa;cases e;unfold gq at h4;exact⟨g,o+4,rfl,h4.2⟩
theorem Sl.init{S:Nat->Prop}{w:WD}{a:Option Addr}{n cap:Nat}{ns:List Nd}(h:Sl S w (.slice a n cap) ns)(j:Nat)(hj:j<=ns.length):Sl S w (.slice a j cap) (ns.take j):=by obtain⟨a',cap',h1,⟨hc,h6⟩,h2⟩:=h;cases h1;refine⟨a,cap,by simp;omega,⟨by simp;omega,by simp;omega⟩,fun hn=>?_⟩;obtain⟨g,o,rfl,h4⟩:=h2 (by rintro rfl;simp at hn);exact⟨g,o,rfl,h4.take ns g o j⟩
theorem Sl.here{S:Nat->Prop}{w:WD}{a:Option Addr}{n cap:Nat}{ns:List Nd}(h:Sl S w (.slice a n cap) ns)(hn:ns≠[]):∃g o,a=some ⟨g,o,none⟩/\gq S w ns g o/\ns.length<=cap:=by obtain⟨a',cap',h1,⟨hc,h6⟩,h2⟩:=h;cases h1;obtain⟨g,o,rfl,h4⟩:=h2 hn;exact⟨g,o,rfl,h4,hc⟩
theorem Sl.form{S:Nat->Prop}{w:WD}{v:Av}{ns:List Nd}(h:Sl S w v ns):∃a cap,v=.slice a ns.length cap:=by obtain⟨a,cap,h1,_⟩:=h;exact⟨a,cap,h1⟩
structure MC(S:Nat->Prop)(w:WD)(n:Nd)(g o:Nat)(kv:Av):Prop where
 s:S g
 c0:w.cell? ⟨g,o,none⟩=some (.int .i64 n.t.kind)
 c1:w.cell? ⟨g,o+1,none⟩=some (.string n.t.word)
 c2:w.cell? ⟨g,o+2,none⟩=some (.string n.t.unit)
 c3:w.cell? ⟨g,o+3,none⟩=some kv
 k:Sl S w kv n.kids
 ok:dI n.t
theorem gq.node{S:Nat->Prop}{w:WD}{l:List Nd}{g o i:Nat}(h:gq S w l g o)(hi:i<l.length):∃kv,MC S w l[i] g (o+i*4) kv:=by
 have h1:=h.at l g o i hi;obtain⟨t,k,e⟩:∃t k,l[i]=Nd.mk t k:=by cases l[i];exact⟨_,_,rfl⟩
 rw[e]at h1⊢;rw[MB]at h1;obtain⟨⟨h0,hok⟩,h1,h2,h3,kv,h4,h5⟩:=h1;exact⟨kv,h0,h1,h2,h3,h4,h5,hok⟩
theorem Sl.head{S:Nat->Prop}{w:WD}{v:Av}{x:Nd}{r:List Nd}(h:Sl S w v (x::r)):∃g o kv cap,v=.slice (some ⟨g,o,none⟩) (r.length+1) cap/\MC S w x g o kv/\r.length+1<=cap:=by obtain⟨a,cap,rfl⟩:=h.form;obtain⟨g,o,rfl,hL,hc⟩:=h.here Aa;obtain⟨kv,hN⟩:=hL.node (i:=0) Aa;exact⟨g,o,kv,cap,rfl,by simpa using hN,hc⟩
def tq(S:Nat->Prop)(w:WD):List Nd->List Av->Prop
 |[],cs=>cs=[]
 |n::r,cs=>∃kv rest,cs=[.int .i64 n.t.kind,.string n.t.word,.string n.t.unit,kv]++rest/\(Sl S w kv n.kids/\dI n.t)/\tq S w r rest
theorem tq.keep{S S':Nat->Prop}{w w':WD}(hS:∀g,S g->S' g)(hw:∀g,S g->w'.heap[g]?=w.heap[g]?):∀(l:List Nd) (cs:List Av),tq S w l cs->tq S' w' l cs
 |[],_,h=>h
 |_::r,_,⟨kv,rest,h1,h2,h3⟩=>⟨kv,rest,h1,⟨h2.1.keep hS hw,h2.2⟩,tq.keep hS hw r rest h3⟩
theorem tq.snoc{S:Nat->Prop}{w:WD}:∀(l:List Nd) (cs:List Av) (_:tq S w l cs) (n:Nd) (kv:Av) (_:Sl S w kv n.kids/\dI n.t),tq S w (l++[n]) (cs++[.int .i64 n.t.kind,.string n.t.word,.string n.t.unit,kv])
 |[],cs,h,n,kv,hk=>⟨kv,[],by simp[show cs=[] from h],hk,rfl⟩
 |m::r,cs,⟨kv',rest,h1,h2,h3⟩,n,kv,hk=>⟨kv',rest++[.int .i64 n.t.kind,.string n.t.word,.string n.t.unit,kv],by simp[h1],h2,tq.snoc r rest h3 n kv hk⟩
theorem tq.lies{S:Nat->Prop}{w:WD}{g:Nat}(hg:S g):∀(l:List Nd) (cs:List Av) (o:Nat) (_:tq S w l cs) (_:∀j u,cs[j]?=some u->w.cell? ⟨g,o+j,none⟩=some u),gq S w l g o
 |[],_,_,_,_=>by simp[gq]
 |.mk t k::r,cs,o,⟨kv,rest,h1,h2,h3⟩,hc=>by subst h1;unfold gq;rw[MB];refine⟨⟨⟨hg,h2.2⟩,hc 0 _ rfl,hc 1 _ rfl,hc 2 _ rfl,kv,hc 3 _ rfl,h2.1⟩,tq.lies hg r rest (o+4) h3 fun j u hu=>?_⟩;rw[show o+4+j=o+(j+4) from by omega];exact hc (j+4) u (by simpa using hu)
def DZ(base:Nat)(w:WD)(v:Av)(b:Nat):Prop:=base<=b/\b<w.heap.size/\some b≠v.ownBlock
def oD(base:Nat)(w:WD)(b:Nat):Prop:=base<=b/\b<w.heap.size
def Ei(T:TypeId)(base:Nat)(w:WD)(v:Av)(l:List Nd):Prop:=∃cs,w.ownsRow base T 4 v l.length cs/\tq (DZ base w v) w l cs
theorem Ei.nil(T:TypeId)(base:Nat)(w:WD):Ei T base w (.slice none 0 0) []:=⟨[],World.ownsRow_nil _ _ _ _,rfl⟩
theorem Ei.sl{T:TypeId}{base:Nat}{w:WD}{v:Av}{l:List Nd}(h:Ei T base w v l)(h6:l.length<=600):Sl (oD base w) w v l:=by
 obtain⟨cs,h1,h2⟩:=h;have h3:tq (oD base w) w l cs:=h2.keep (fun g hg=>⟨hg.1,hg.2.1⟩) (fun _ _=>rfl);rcases h1.2 with⟨rfl,hn⟩|⟨g,cap,cur,rfl,hbg,hg,hnc,hrest⟩
 .have:l=[]:=List.eq_nil_of_length_eq_zero hn;subst this;exact Sl.nil _ _
 .refine⟨_,cap,rfl,⟨hnc,h6⟩,fun _=>⟨g,0,rfl,tq.lies ⟨hbg,(Ax hg)⟩ l cs 0 h3 fun j u hu=>?_⟩⟩;have:=h1.cells (g:=g) rfl j u hu;rw[Addr.add_lit,Nat.zero_add]at this;rw[Nat.zero_add];exact this
theorem Ei.lt{T:TypeId}{base:Nat}{w:WD}{v:Av}{l:List Nd}(h:Ei T base w v l):∀k,v.ownBlock=some k->base<=k/\k<w.heap.size:=by obtain⟨cs,h1,_⟩:=h;exact h1.lt
theorem Ei.keep{T:TypeId}{base:Nat}{w w':WD}{v:Av}{l:List Nd}(h:Ei T base w v l)(hs:w.heap.size<=w'.heap.size)(hw:∀g,base<=g->g<w.heap.size->w'.heap[g]?=w.heap[g]?):Ei T base w' v l:=by
 obtain⟨cs,h1,h2⟩:=h;refine⟨cs,⟨h1.1,?_⟩,h2.keep (fun g hg=>⟨hg.1,by have:=hg.2.1;omega,hg.2.2⟩) (fun g hg=>hw g hg.1 hg.2.1)⟩;rcases h1.2 with hn|⟨g,cap,cur,rfl,hbg,hgg,rest⟩
 .exact .inl hn
 .exact .inr ⟨g,cap,cur,rfl,hbg,by rw[hw g hbg (Ax hgg)];exact hgg,rest⟩
theorem Ei.alloc{T:TypeId}{base:Nat}{w:WD}{v:Av}{l:List Nd}(h:Ei T base w v l)(o:Obj):Ei T base (w.alloc o) v l:=h.keep Aa fun g _ hg=>Below.heap_alloc _ _ _ hg
theorem Ei.form{T:TypeId}{base:Nat}{w:WD}{v:Av}{l:List Nd}(h:Ei T base w v l):∃a cap,v=.slice a l.length cap:=by
 obtain⟨cs,h1,_⟩:=h;rcases h1.2 with⟨rfl,hn⟩|⟨g,cap,cur,rfl,_⟩
 .exact⟨none,0,by rw[hn]⟩
 .exact⟨_,_,rfl⟩
theorem Ei.snoc{T:TypeId}{base:Nat}{w w2:WD}{v v2:Av}{l:List Nd}{cs:List Av}{n:Nd}{kv:Av}(h2:tq (DZ base w v) w l cs)(hk:Sl (DZ base w v) w kv n.kids)(hn:dI n.t)
  (hown:w2.ownsRow base T 4 v2 (l.length+1) (cs++[.int .i64 n.t.kind,.string n.t.word,.string n.t.unit,kv])) (hg:w.grownBy w2 v.ownBlock) (hat:v2.ownBlock=v.ownBlock\/v2.ownBlock=some w.heap.size):Ei T base w2 v2 (l++[n]):=by
 have hS:∀g,DZ base w v g->DZ base w2 v2 g:=by
  rintro g ⟨h3,h4,h5⟩;refine⟨h3,Nat.lt_of_lt_of_le h4 hg.size,?_⟩;rcases hat with e|e
  .rw[e];exact h5
  .rw[e];intro e2;cases e2;omega
 have hw:∀g,DZ base w v g->w2.heap[g]?=w.heap[g]?:=fun g hgg=>hg.block g hgg.2.1 hgg.2.2;refine⟨_,by rw[List.length_append];exact hown,tq.snoc _ _ (h2.keep hS hw) n kv ⟨hk.keep hS hw,hn⟩⟩
theorem Ei.apart{T:TypeId}{base:Nat}{w w3 W:WD}{v kv:Av}{l ks:List Nd}(h:Ei T base w v l)(hk:Sl (oD w.heap.size w3) w3 kv ks)(hbase:base<=w.heap.size)(hs:w3.heap.size<=W.heap.size)(hw:∀g,g<w3.heap.size->W.heap[g]?=w3.heap[g]?):Sl (DZ base W v) W kv ks:=hk.keep (fun g hg=>⟨by have:=hg.1;omega,by have:=hg.2;omega,fun e=>by have:=(h.lt g e.symm).2;have:=hg.1;omega⟩) fun g hg=>hw g hg.2
end
theorem Qr{a b:BY}(h:a=b):Ending.returned (.string a)=Ending.returned (.string b):=by rw[h]
section
section
variable {w w':WD} {g:Nat} {a b c d:Av}
end
def qF(w:WD)(g:Nat)(a b c d:Av):WD:=(((w.setCell ⟨g,0,none⟩ a).setCell ⟨g,1,none⟩ b).setCell ⟨g,2,none⟩ c).setCell ⟨g,3,none⟩ d
theorem oO{B g:Nat}{x w:WD}(h:Below B x w)(hg:B<=g)(a b c d:Av):Below B x (qF w g a b c d):=(((h.setCell hg a).setCell hg b).setCell hg c).setCell hg d
theorem jv(w:WD){g k:Nat}(h:k≠g)(a b c d:Av):(qF w g a b c d).heap[k]?=w.heap[k]?:=by unfold qF;rw[Below.heap_setCell _ _ _ _ h,Below.heap_setCell _ _ _ _ h,Below.heap_setCell _ _ _ _ h,Below.heap_setCell _ _ _ _ h]
end
section
theorem qY{P:Program}{ops:Array Oper}{o:Oper}{a:Act}{w:WD}{K:Act->WD->Prop}{Q:Exit->Act->WD->Prop}{E:Prop}
  (hg:o.guard=none) (s x:Operand) (t:TypeId) (hop:o.op=Op.call { callee:=Callee.builtin Builtin.append,args:=#[s,x],argTypes:=#[t,t] })
  (base:Nat) (e:TypeId) (i:TypeInfo) (z:Av) (size bytes:Nat) (h1:P.underlying t=some (.slice e)) (h2:P.info? e=some i) (h3:i.zero=some z) (h4:i.size=size) (h5:i.bytes=bytes) (h6:z.cells.size=size) (h7:0<size)
  (v:Av) (n:Nat) (xs:List Av) (hs:a.eval s=v) (hown:w.ownsRow base e size v n xs)
  (ad:Addr) (m c:Nat) (news:List Av) (hx:a.eval x=.slice (some ad) m c) (hn:news.length=m*size) (hc:∀j u,news[j]?=some u->w.cell? (ad.add j)=some u) (h1c:∀u∈news,u.oneCell'=true)
  (b1:n+m<=maxLen) (b2:(n+m)*bytes<=140737488355328) (hbase:base<=w.heap.size)
  (hK:∀v' w',w'.ownsRow base e size v' (n+m) (xs++news)->w.grownBy w' v.ownBlock->(v'.ownBlock=v.ownBlock\/v'.ownBlock=some w.heap.size)->K (a.put o.dst v') w'):
  if Region.wanted o (yielded ops a.tmps)=true then Oper.wp P o a w K Q else E:=by
 have hw:Region.wanted o (yielded ops a.tmps)=true:=by simp[Region.wanted,hg]
 rw[if_pos hw];obtain⟨v',w',hr,r1,r2,_,r4⟩:=run_append_own_at (P:=P) w base t o.type e i z size bytes h1 h2 h3 h4 h5 h6 h7 v n xs hown ad m c news hn hc h1c b1 b2 hbase;unfold Oper.wp;simp[execOp,hop,resolve,invoke,builtin,hs,hx,hr,Result.andThen];exact hK v' w' r1 r2 r4
theorem Vu(w:WD)(a b c d:Av)(t:TypeId):∀j u,[a,b,c,d][j]?=some u->(w.alloc (.cells #[a,b,c,d] t)).cell? ((⟨w.heap.size,0,none⟩:Addr).add j)=some u:=by intro j u hu;rw[Addr.add_lit,Nat.zero_add,World.cell?_alloc_mark,<-hu];simp
def Hf(S:Nat->Prop)(w:WD):List (List Nd)->List Av->Prop
 |[],vs=>vs=[]
 |l::r,vs=>∃v rest,vs=v::rest/\Sl S w v l/\Hf S w r rest
theorem Hf.keep{S S':Nat->Prop}{w w':WD}(hS:∀g,S g->S' g)(hw:∀g,S g->w'.heap[g]?=w.heap[g]?):∀(l:List (List Nd)) (vs:List Av),Hf S w l vs->Hf S' w' l vs
 |[],_,h=>h
 |_::r,_,⟨v,rest,h1,h2,h3⟩=>⟨v,rest,h1,h2.keep hS hw,Hf.keep hS hw r rest h3⟩
theorem Hf.snoc{S:Nat->Prop}{w:WD}:∀(l:List (List Nd)) (vs:List Av) (_:Hf S w l vs) (x:List Nd) (v:Av) (_:Sl S w v x),Hf S w (l++[x]) (vs++[v])
 |[],vs,h,x,v,hv=>⟨v,[],by simp[show vs=[] from h],hv,rfl⟩
 |_::r,_,⟨v',rest,h1,h2,h3⟩,x,v,hv=>⟨v',rest++[v],by simp[h1],h2,Hf.snoc r rest h3 x v hv⟩
theorem Hf.at{S:Nat->Prop}{w:WD}:∀(l:List (List Nd)) (vs:List Av) (_:Hf S w l vs) (k:Nat) (hk:k<l.length),∃v,vs[k]?=some v/\Sl S w v l[k]
 |_::_,_,⟨v,rest,h1,h2,_⟩,0,_=>⟨v,by simp[h1],h2⟩
 |_::r,_,⟨_,rest,h1,_,h3⟩,k+1,hk=>by obtain⟨v,e,h⟩:=Hf.at r rest h3 k (by simpa using hk);exact⟨v,by simp[h1,e],by simpa using h⟩
theorem kQ{w:WD}{base e s n:Nat}{v:Av}{xs:List Av}(h:w.ownsRow base e s v n xs):∃a c,v=.slice a n c:=by
 rcases h.2 with⟨rfl,rfl⟩|⟨g,cap,cur,rfl,_⟩
 .exact⟨none,0,rfl⟩
 .exact⟨_,_,rfl⟩
theorem ZQ{w:WD}{base e1 e2 s1 s2 n1 n2:Nat}{v1 v2:Av}{x1 x2:List Av}(h1:w.ownsRow base e1 s1 v1 n1 x1)(h2:w.ownsRow base e2 s2 v2 n2 x2)(he:e1≠e2)(b:Nat)(hb:v1.ownBlock=some b):v2.ownBlock≠some b:=by
 rcases h1.2 with⟨rfl,_⟩|⟨g,cap,cur,rfl,_,hg,_⟩
 .cases hb
 .rcases h2.2 with⟨rfl,_⟩|⟨g',cap',cur',rfl,_,hg',_⟩
  .simp[Value.ownBlock]
  .simp only[Value.ownBlock,Option.some.injEq]at hb⊢;subst hb;intro e;injection e with e
   subst e;rw[hg]at hg';simp at hg';exact he hg'.2
section
variable {B base:Nat} {w w3:WD} {vo cv:Av} {fin:List (List Nd)} {cur:List Nd} {fvs cs:List Av}
theorem ab4(cs:List Av)(k:Nat)(hk:cs.length=k*4)(z0 z1 z2 z3 a b c d:Av):((((cs++[z0,z1,z2,z3]).set (k*4) a).set (k*4+1) b).set (k*4+2) c).set (k*4+3) d=cs++[a,b,c,d]:=by rw[<-hk];rw[List.set_append_right _ _ oo,List.set_append_right _ _ oo,List.set_append_right _ _ oo,List.set_append_right _ _ oo];simp
theorem Gu{w:WD}{base e s n:Nat}{v:Av}{xs:List Av}(h:w.ownsRow base e s v (n+1) xs):∃g c,v=.slice (some ⟨g,0,none⟩) (n+1) c:=by
 rcases h.2 with⟨_,hn⟩|⟨g,cap,cur,rfl,_⟩
 .omega
 .exact⟨_,_,rfl⟩
theorem Qv{w:WD}{base e g n cap:Nat}{cs:List Av}{z0 z1 z2 z3:Av}(h:w.ownsRow base e 4 (.slice (some ⟨g,0,none⟩) (n+1) cap) (n+1) (cs++[z0,z1,z2,z3]))(hl:cs.length=n*4):
  w.cell? ⟨g,n*4,none⟩=some z0/\w.cell? ⟨g,n*4+1,none⟩=some z1/\w.cell? ⟨g,n*4+2,none⟩=some z2/\w.cell? ⟨g,n*4+3,none⟩=some z3:=by
 refine⟨?_,?_,?_,?_⟩;all_goals
  rw[h.cellAt _ oo,List.getElem?_append_right oo];simp[hl]
theorem MC.below{n:Nd}{g o:Nat}{kv:Av}(h:MC (fun b=>b<B) w n g o kv)(hb:Below B w w3):MC (fun b=>b<B) w3 n g o kv:=by have hcell:∀q,w3.cell? ⟨g,q,none⟩=w.cell? ⟨g,q,none⟩:=fun q=>hb.cell (show g<B from h.s);exact⟨h.s,by rw[hcell];exact h.c0,by rw[hcell];exact h.c1,by rw[hcell];exact h.c2,by rw[hcell];exact h.c3,h.k.below hb nl,h.ok⟩
end
end
def Iy(l:List Nd)(i:Nat)(e:Ending):Prop:=
 match gU (l.drop i)with
 |none=>∃k:Nat,e=.returned (.tuple #[.int .u8 0,.int .i64 (k:Int)])
 |some (c,r)=>∃k:Nat,e=.returned (.tuple #[.int .u8 (c:Int),.int .i64 (k:Int)])/\i<k/\k<=l.length/\l.drop k=r/\0<c/\c<256
section
abbrev wV(α:Type):=(Nat->Prop)->WD->α->List Av->Prop
def Fair{α:Type}(C:wV α):Prop:=∀(S S':Nat->Prop) (w w':WD) (x:α) (cs:List Av),(∀g,S g->S' g)->(∀g,S g->w'.heap[g]?=w.heap[g]?)->C S w x cs->C S' w' x cs
def ug{α:Type}(C:wV α)(sz:Nat):Prop:=∀S w x cs,C S w x cs->cs.length=sz
section
variable {α:Type} (C:wV α) (sz:Nat)
def EG(S:Nat->Prop)(w:WD)(x:α)(g o:Nat):Prop:=S g/\∃cs,C S w x cs/\∀j u,cs[j]?=some u->w.cell? ⟨g,o+j,none⟩=some u
def LG(S:Nat->Prop)(w:WD):List α->Nat->Nat->Prop
 |[],_,_=>True
 |x::r,g,o=>EG C S w x g o/\LG S w r g (o+sz)
def SG(S:Nat->Prop)(w:WD)(v:Av)(xs:List α):Prop:=∃(a:Option Addr) (cap:Nat),v=.slice a xs.length cap/\(xs.length<=cap/\xs.length<=2097152)/\(xs≠[]->∃g o,a=some ⟨g,o,none⟩/\LG C sz S w xs g o)
def jC(S:Nat->Prop)(w:WD):List α->List Av->Prop
 |[],cs=>cs=[]
 |x::r,cs=>∃c rest,cs=c++rest/\C S w x c/\jC S w r rest
def MG(T:TypeId)(base:Nat)(w:WD)(v:Av)(xs:List α):Prop:=∃cs,w.ownsRow base T sz v xs.length cs/\jC C (DZ base w v) w xs cs
end
section
variable {α:Type} {C:wV α} {sz:Nat} {S S':Nat->Prop} {w w':WD}
theorem EG.keep(hF:Fair C)(hS:∀g,S g->S' g)(hw:∀g,S g->w'.heap[g]?=w.heap[g]?){x:α}{g o:Nat}(h:EG C S w x g o):EG C S' w' x g o:=by obtain⟨h0,cs,h1,h2⟩:=h;exact⟨hS g h0,cs,hF _ _ _ _ _ _ hS hw h1,fun j u hu=>by rw[World.cell?_of_block (w:=w) (hw g h0)];exact h2 j u hu⟩
theorem LG.keep(hF:Fair C)(hS:∀g,S g->S' g)(hw:∀g,S g->w'.heap[g]?=w.heap[g]?):∀(l:List α) (g o:Nat),LG C sz S w l g o->LG C sz S' w' l g o
 |[],_,_,_=>by simp[LG]
 |_::r,g,o,h=>⟨h.1.keep hF hS hw,LG.keep hF hS hw r g (o+sz) h.2⟩
theorem SG.keep(hF:Fair C){v:Av}{xs:List α}(h:SG C sz S w v xs)(hS:∀g,S g->S' g)(hw:∀g,S g->w'.heap[g]?=w.heap[g]?):SG C sz S' w' v xs:=by obtain⟨a,cap,h1,hc,h2⟩:=h;refine⟨a,cap,h1,hc,fun hn=>?_⟩;obtain⟨g,o,h3,h4⟩:=h2 hn;exact⟨g,o,h3,h4.keep hF hS hw⟩
theorem SG.below(hF:Fair C){B B':Nat}{v:Av}{xs:List α}(h:SG C sz (fun b=>b<B) w v xs)(hb:Below B' w w')(hB:B<=B'):SG C sz (fun b=>b<B) w' v xs:=h.keep hF (fun _ hg=>hg) fun g hg=>hb.block g (Nat.lt_of_lt_of_le hg hB)
theorem SG.mono(hF:Fair C){B B':Nat}{v:Av}{xs:List α}(h:SG C sz (fun b=>b<B) w v xs)(hB:B<=B'):SG C sz (fun b=>b<B') w v xs:=h.keep hF (fun _ hg=>Nat.lt_of_lt_of_le hg hB) fun _ _=>rfl
theorem SG.iE(C:wV α)(sz:Nat)(S:Nat->Prop)(w:WD)(a:Option Addr)(c:Nat):SG C sz S w (.slice a 0 c) []:=⟨a,c,rfl,⟨by simp,by simp⟩,fun h=>absurd rfl h⟩
theorem SG.len{v:Av}{xs:List α}(h:SG C sz S w v xs):xs.length<=2097152:=by obtain⟨_,_,_,hc,_⟩:=h;exact hc.2
theorem SG.form{v:Av}{xs:List α}(h:SG C sz S w v xs):∃a cap,v=.slice a xs.length cap:=by obtain⟨a,cap,h1,_⟩:=h;exact⟨a,cap,h1⟩
theorem SG.here{a:Option Addr}{n cap:Nat}{xs:List α}(h:SG C sz S w (.slice a n cap) xs)(hn:xs≠[]):∃g o,a=some ⟨g,o,none⟩/\LG C sz S w xs g o/\xs.length<=cap:=by obtain⟨a',cap',h1,⟨hc,h6⟩,h2⟩:=h;cases h1;obtain⟨g,o,rfl,h4⟩:=h2 hn;exact⟨g,o,rfl,h4,hc⟩
theorem LG.at:∀(l:List α) (g o i:Nat) (_:LG C sz S w l g o) (hi:i<l.length),EG C S w l[i] g (o+i*sz)
 |_::_,g,o,0,h,_=>by simpa using h.1
 |_::r,g,o,i+1,h,hi=>by have:=LG.at r g (o+sz) i h.2 (by simpa using hi);rw[show o+(i+1)*sz=o+sz+i*sz from by rw[Nat.add_mul];omega];simpa using this
theorem jC.keep(hF:Fair C)(hS:∀g,S g->S' g)(hw:∀g,S g->w'.heap[g]?=w.heap[g]?):∀(l:List α) (cs:List Av),jC C S w l cs->jC C S' w' l cs
 |[],_,h=>h
 |_::r,_,⟨c,rest,h1,h2,h3⟩=>⟨c,rest,h1,hF _ _ _ _ _ _ hS hw h2,jC.keep hF hS hw r rest h3⟩
theorem jC.snoc:∀(l:List α) (cs:List Av) (_:jC C S w l cs) (x:α) (c:List Av) (_:C S w x c),jC C S w (l++[x]) (cs++c)
 |[],cs,h,x,c,hc=>⟨c,[],by simp[show cs=[] from h],hc,rfl⟩
 |_::r,_,⟨c',rest,h1,h2,h3⟩,x,c,hc=>⟨c',rest++c,by simp[h1],h2,jC.snoc r rest h3 x c hc⟩
theorem jC.lies(hZ:ug C sz){g:Nat}(hg:S g):∀(l:List α) (cs:List Av) (o:Nat) (_:jC C S w l cs) (_:∀j u,cs[j]?=some u->w.cell? ⟨g,o+j,none⟩=some u),LG C sz S w l g o
 |[],_,_,_,_=>by simp[LG]
 |_::r,cs,o,⟨c,rest,h1,h2,h3⟩,hc=>by
  subst h1;have hl:=hZ _ _ _ _ h2;refine⟨⟨hg,c,h2,fun j u hu=>hc j u ?_⟩,jC.lies hZ hg r rest (o+sz) h3 fun j u hu=>?_⟩
  .have hj:j<c.length:=(List.getElem?_eq_some_iff.1 hu).1;rw[List.getElem?_append_left hj];exact hu
  .rw[show o+sz+j=o+(j+sz) from by omega];apply hc (j+sz) u
   rw[List.getElem?_append_right oo,hl];simpa using hu
theorem MG.nil(C:wV α)(sz:Nat)(T:TypeId)(base:Nat)(w:WD):MG C sz T base w (.slice none 0 0) []:=⟨[],World.ownsRow_nil _ _ _ _,rfl⟩
theorem MG.sl(hF:Fair C)(hZ:ug C sz){T:TypeId}{base:Nat}{v:Av}{l:List α}(h:MG C sz T base w v l)(h6:l.length<=2097152):SG C sz (oD base w) w v l:=by
 obtain⟨cs,h1,h2⟩:=h;have h3:jC C (oD base w) w l cs:=h2.keep hF (fun g hg=>⟨hg.1,hg.2.1⟩) (fun _ _=>rfl);rcases h1.2 with⟨rfl,hn⟩|⟨g,cap,cur,rfl,hbg,hg,hnc,hrest⟩
 .have:l=[]:=List.eq_nil_of_length_eq_zero hn;subst this;exact SG.iE _ _ _ _ _ _
 .refine⟨_,cap,rfl,⟨hnc,h6⟩,fun _=>⟨g,0,rfl,jC.lies hZ ⟨hbg,(Ax hg)⟩ l cs 0 h3 fun j u hu=>?_⟩⟩;have:=h1.cells (g:=g) rfl j u hu;rw[Addr.add_lit,Nat.zero_add]at this;rw[Nat.zero_add];exact this
theorem MG.lt{T:TypeId}{base:Nat}{v:Av}{l:List α}(h:MG C sz T base w v l):∀k,v.ownBlock=some k->base<=k/\k<w.heap.size:=by obtain⟨cs,h1,_⟩:=h;exact h1.lt
theorem MG.keep(hF:Fair C){T:TypeId}{base:Nat}{v:Av}{l:List α}(h:MG C sz T base w v l)(hs:w.heap.size<=w'.heap.size)(hw:∀g,base<=g->g<w.heap.size->w'.heap[g]?=w.heap[g]?):MG C sz T base w' v l:=by
 obtain⟨cs,h1,h2⟩:=h;refine⟨cs,⟨h1.1,?_⟩,h2.keep hF (fun g hg=>⟨hg.1,by have:=hg.2.1;omega,hg.2.2⟩) (fun g hg=>hw g hg.1 hg.2.1)⟩;rcases h1.2 with hn|⟨g,cap,cur,rfl,hbg,hgg,rest⟩
 .exact .inl hn
 .exact .inr ⟨g,cap,cur,rfl,hbg,by rw[hw g hbg (Ax hgg)];exact hgg,rest⟩
theorem MG.below(hF:Fair C){T:TypeId}{base:Nat}{v:Av}{l:List α}(h:MG C sz T base w v l)(hb:Below w.heap.size w w'):MG C sz T base w' v l:=h.keep hF hb.size fun g _ hg=>hb.block g hg
theorem MG.alloc(hF:Fair C){T:TypeId}{base:Nat}{v:Av}{l:List α}(h:MG C sz T base w v l)(o:Obj):MG C sz T base (w.alloc o) v l:=h.keep hF Aa fun g _ hg=>Below.heap_alloc _ _ _ hg
theorem MG.form{T:TypeId}{base:Nat}{v:Av}{l:List α}(h:MG C sz T base w v l):∃a cap,v=.slice a l.length cap:=by
 obtain⟨cs,h1,_⟩:=h;rcases h1.2 with⟨rfl,hn⟩|⟨g,cap,cur,rfl,_⟩
 .exact⟨none,0,by rw[hn]⟩
 .exact⟨_,_,rfl⟩
theorem MG.snoc(hF:Fair C){T:TypeId}{base:Nat}{v v2:Av}{l:List α}{cs c:List Av}{x:α}(h2:jC C (DZ base w v) w l cs)(hx:C (DZ base w v) w x c)
  (hown:w'.ownsRow base T sz v2 (l.length+1) (cs++c)) (hg:w.grownBy w' v.ownBlock) (hat:v2.ownBlock=v.ownBlock\/v2.ownBlock=some w.heap.size):MG C sz T base w' v2 (l++[x]):=by
 have hS:∀g,DZ base w v g->DZ base w' v2 g:=by
  rintro g ⟨h3,h4,h5⟩;refine⟨h3,Nat.lt_of_lt_of_le h4 hg.size,?_⟩;rcases hat with e|e
  .rw[e];exact h5
  .rw[e];intro e2;cases e2;omega
 have hw:∀g,DZ base w v g->w'.heap[g]?=w.heap[g]?:=fun g hgg=>hg.block g hgg.2.1 hgg.2.2;exact⟨_,by rw[List.length_append];exact hown,jC.snoc _ _ (h2.keep hF hS hw) x c (hF _ _ _ _ _ _ hS hw hx)⟩
theorem MG.apart{β:Type}{D:wV β}{T:TypeId}{base:Nat}{w3 W:WD}{v:Av}{l:List α}{x:β}{c:List Av}(h:MG C sz T base w v l)(hF:Fair D)(hx:D (oD w.heap.size w3) w3 x c)(hbase:base<=w.heap.size)(hs:w3.heap.size<=W.heap.size)(hw:∀g,g<w3.heap.size->W.heap[g]?=w3.heap[g]?):D (DZ base W v) W x c:=hF _ _ _ _ _ _ (fun g hg=>⟨by have:=hg.1;omega,by have:=hg.2;omega,fun e=>by have:=(h.lt g e.symm).2;have:=hg.1;omega⟩) (fun g hg=>hw g hg.2) hx
end
def One{α:Type}(C:wV α)(sz:Nat):wV (List α):=fun S w x cs=>∃v,cs=[v]/\SG C sz S w v x
theorem One.fair{α:Type}{C:wV α}{sz:Nat}(hF:Fair C):Fair (One C sz):=by rintro S S' w w' x cs hS hw ⟨v,h1,h2⟩;exact⟨v,h1,h2.keep hF hS hw⟩
theorem One.sized{α:Type}(C:wV α)(sz:Nat):ug (One C sz) 1:=by rintro S w x cs ⟨v,rfl,_⟩;rfl
end
def ak1(k:Nat)(nm h v:BY)(lv:Av)(p:Nat):Av:=.agg #[.int .u8 (k:Int),.string nm,.string h,.string v,lv,.int .i64 (p:Int)]
def ak2(k:Nat)(nm h v:BY)(lv:Av)(p:Nat):List Av:=[.int .u8 (k:Int),.string nm,.string h,.string v,lv,.int .i64 (p:Int)]
def amu(D:wV Simple):wV Step:=fun S w s cs=>∃av,cs=[.int .u8 (s.1:Int),av]/\SG D 6 S w av s.2
def CCx(D:wV Simple):wV (List Step):=One (amu D) 2
def amv:Nat->wV Simple
 |0=>fun _ _ s cs=>match s with|.mk k nm h v l p=>l=[]/\∃a c,cs=ak2 k nm h v (.slice a 0 c) p
 |n+1=>fun S w s cs=>match s with|.mk k nm h v l p=>∃lv,cs=ak2 k nm h v lv p/\SG (CCx (amv n)) 1 S w lv l
def dX:Nat->List Nd->Option bY
 |0=>fun _=>none
 |f+1=>lM f
theorem agb(f:Nat)(l:List Nd):lM f l=oz (dX f) l:=by cases f<;>rfl
def CU(l:List Nd)(e:Ending):Prop:=
 (gG l=none/\e=.returned (.tuple #[ak1 0 aA aA aA (.slice none 0 0) 0,.bool false])) \/
 ∃nm h v,gG l=some (.mk 91 nm h v [] 0)/\e=.returned (.tuple #[ak1 91 nm h v (.slice none 0 0) 0,.bool true])
section
def SB(w:WD)(g:Nat)(a b c d e f:Av):Prop:=w.heap[g]?=some (.cells #[a,b,c,d,e,f] 278 (0,0))
section
variable {w w':WD} {g:Nat} {a b c d e f:Av}
end
def amJ(w:WD)(g:Nat)(a b c d e f:Av):WD:=(((((w.setCell ⟨g,0,none⟩ a).setCell ⟨g,1,none⟩ b).setCell ⟨g,2,none⟩ c).setCell ⟨g,3,none⟩ d).setCell ⟨g,4,none⟩ e).setCell ⟨g,5,none⟩ f
theorem Je{B g:Nat}{x w:WD}(h:Below B x w)(hg:B<=g)(a b c d e f:Av):Below B x (amJ w g a b c d e f):=(((((h.setCell hg a).setCell hg b).setCell hg c).setCell hg d).setCell hg e).setCell hg f
end
end Go.Proofs.YtlliliddljkbfaaGreat
namespace Go.Proofs.YtlliliddljkbfaaGreat
open Go.Proofs.Tryz (prog)
open Go.RowKit
theorem wpList_append_str{P:Program}(w:World){ops:Array Oper}{rest:List Oper}{o:Oper}{a:Act}{Q:Exit->Act->World->Prop}
  (hg:o.guard=none) (s x:Operand) (t tx:TypeId) (hop:o.op=Op.call { callee:=Callee.builtin Builtin.append,args:=#[s,x],argTypes:=#[t,tx] })
  (base:Nat) (e:TypeId) (i:TypeInfo) (h1:P.underlying t=some (.slice e)) (h1x:P.underlying tx=some .string) (h2:P.info? e=some i) (h4:i.size=1)
  (g k cap:Nat) (xs:List Value) (hs:a.eval s=.slice (some ⟨g,0,none⟩) k cap) (hown:w.ownsRow base e 1 (.slice (some ⟨g,0,none⟩) k cap) k xs) (str:ByteArray) (hx:a.eval x=.string str) (b1:k+str.size<=cap)
  (hK:∀w',w'.ownsRow base e 1 (.slice (some ⟨g,0,none⟩) (k+str.size) cap) (k+str.size) (xs++byteCells str)->w.grownBy w' (some g)->wpList P ops Q rest (a.put o.dst (.slice (some ⟨g,0,none⟩) (k+str.size) cap)) w'):
  wpList P ops Q (o::rest) a w:=by
 refine wpList_plain hg fun K hK'=>?_;have hl:(byteCells str).length=str.size:=byteCells_length str;have hone:∀u∈byteCells str,u.oneCell'=true:=(Src.ofString (P:=P) w h1x str).one;rcases hown.2 with⟨hv,_⟩|⟨g',cap',cur,hv,hb,hgg,hnc,hcm,hcs,htake⟩
 .cases hv
 .have hv':g=g'/\cap=cap':=by
   injection hv with e1 e2 e3
   injection e1 with e1
   injection e1 with e1
   exact⟨e1,e3⟩
  obtain⟨rfl,rfl⟩:=hv';have hx0:=hown.1;have hst:=run_storeCells_at P g k e (byteCells str) 0 cur w hgg (by rw[hl,hcs];omega) hone;simp only[Nat.add_zero]at hst;have hrun:(Builtin.append_ #[t,tx] o.type #[.slice (some ⟨g,0,none⟩) k cap,.string str]).run P w =
    .ok (.slice (some ⟨g,0,none⟩) (k+str.size) cap) (w.setRow g (cur.toList.take k++byteCells str++cur.toList.drop (k+(byteCells str).length)).toArray):=by
   have hf:=firstCells_string (P:=P) str w;simp[Builtin.append_,run_underlying h1,run_underlying h1x,sizeOf,typeInfo,h2,h4,Builtin.lenOf,b1,hf,Addr.add_lit,hst]
  unfold Oper.wp;simp only[execOp,hop,resolve,invoke,builtin,Sem.run_bind,Sem.run_pure,Result.andThen_ok,List.map_toArray,List.map_cons,List.map_nil,hs,hx,hrun];refine hK' _ _ (hK _ ⟨?_,.inr ⟨g,cap,_,rfl,hb,setRow_heap w g cur _ e _ hgg,b1,hcm,?_,?_⟩⟩ ⟨rfl,rfl,rfl,by simp,fun k' _ hk=>setRow_other w g k' _ (fun e=>hk (by rw[e]))⟩)
  .rw[List.length_append,hx0,hl];omega
  .simp only[List.size_toArray,List.length_append,List.length_take,List.length_drop,Array.length_toList,hl];omega
  .have h3:(k+str.size)*1=(cur.toList.take k++byteCells str).length:=by
    simp only[List.length_append,List.length_take,Array.length_toList,hl];omega
   rw[h3];dsimp only
   rw[List.take_left];congr 1
   rw[<-htake];simp
theorem conv_own{P:Program}(w:World)(src dst e:TypeId)(hs:P.underlying src=some (.slice e))(he:P.underlying e=some (.int .u8))(hd:P.underlying dst=some .string)
  {base:Nat}{v:Value} (l:List UInt8) (hown:w.ownsRow base e 1 v l.length (l.map fun b=>Value.int .u8 (b.toNat:Int))):
  (convert src dst v).run P w=.ok (.string ⟨l.toArray⟩) w:=by
 rcases hown.2 with⟨rfl,h0⟩|⟨g,cap,cur,rfl,hb,hgg,hnc,hcm,hcs,htake⟩
 .have:l=[]:=List.eq_nil_of_length_eq_zero h0;subst this;rw[run_convert_bytes_nil w src e hs he 0 0 dst hd];rfl
 .refine run_convert_bytes_back w src dst e ⟨g,0,none⟩ cap l hs he hd ?_;intro j hj;exact hown.cells (g:=g) rfl j _ (by simp[hj])
theorem byteCells_map(s:ByteArray):byteCells s=s.data.toList.map fun b=>Value.int .u8 (b.toNat:Int):=rfl
theorem info_u8:∃i,prog.info? 5=some i/\i.zero=some (.int .u8 0)/\i.size=1/\i.bytes=1:=info_parts (by kernel_rfl)
theorem info_str:∃i,prog.info? 9=some i/\i.zero=some (.string ⟨#[]⟩)/\i.size=1/\i.bytes=16:=info_parts (by kernel_rfl)
theorem info_tok:∃i,prog.info? 93=some i/\i.zero=some (.agg #[.int .i64 0,.string ⟨#[]⟩,.string ⟨#[]⟩])/\i.size=3/\i.bytes=40:=info_parts (by kernel_rfl)
end Go.Proofs.YtlliliddljkbfaaGreat
namespace Go.Proofs.YtlliliddljkbfaaGreat
open Go.Proofs.Tryz (prog)
open Go.RowKit Sp
theorem ZV(c:UInt8):(jr c).toNat=if 65<=c.toNat/\c.toNat<=90 then c.toNat+32 else c.toNat:=by
 unfold jr;have h:=c.toNat_lt;by_cases h1:65<=c/\c<=90
 .rw[if_pos h1];have h2:65<=c.toNat/\c.toNat<=90:=by simpa[UInt8.le_iff_toNat_le]using h1
  rw[if_pos h2,UInt8.toNat_add];simp;omega
 .rw[if_neg h1,if_neg (by simpa[UInt8.le_iff_toNat_le]using h1)]
def Bytes(w:World)(g:Nat)(s:BY)(k:Nat):Prop:=
 (∀j (hj:j<s.size),w.cell? ⟨g,j,none⟩=some (.int .u8 (if j<k then((jr s[j]).toNat:Int) else(s[j].toNat:Int)))) /\
 (∀j,j<s.size->w.frozen? ⟨g,j,none⟩=false)/\g<w.heap.size
theorem Bytes.step{w:World}{g:Nat}{s:BY}{k:Nat}(h:Bytes w g s k)(hk:k<s.size):Bytes (w.setCell ⟨g,k,none⟩ (.int .u8 ((jr s[k]).toNat:Int))) g s (k+1):=by
 refine⟨fun j hj=>?_,fun j hj=>?_,by simpa[World.setCell]using h.2.2⟩
 .by_cases e:j=k
  .subst e;rw[if_pos (by omega)];apply World.cell?_setCell_same
   exact h.1 j hj
  .have h1:=h.1 j hj;have h2:(w.setCell ⟨g,k,none⟩ (.int .u8 ((jr s[k]).toNat:Int))).cell? ⟨g,j,none⟩=w.cell? ⟨g,j,none⟩:=by
    apply World.cell?_setCell_other
    intro h0;exact e (congrArg Addr.off h0).symm
   rw[h2,h1];congr 2
   by_cases h3:j<k
   .rw[if_pos h3,if_pos (by omega)]
   .rw[if_neg h3,if_neg (by omega)]
 .have:=h.2.1 j hj;simpa using this
theorem Bytes.stay{w:World}{g:Nat}{s:BY}{k:Nat}(h:Bytes w g s k)(hk:k<s.size)(e:jr s[k]=s[k]):Bytes w g s (k+1):=by
 refine⟨fun j hj=>?_,h.2.1,h.2.2⟩;rw[h.1 j hj];congr 2
 by_cases h3:j<k
 .rw[if_pos h3,if_pos (by omega)]
 .rw[if_neg h3];by_cases h4:j<k+1
  .obtain rfl:j=k:=by omega
   rw[if_pos h4,e]
  .rw[if_neg h4]
theorem Bytes.conv{w:World}{g:Nat}{s:BY}{k cap:Nat}(h:Bytes w g s k)(hk:s.size<=k):
  (convert 145 9 (.slice (some ⟨g,0,none⟩) s.size cap)).run prog w=.ok (.string (small s)) w:=by
 have hl:(s.data.toList.map jr).length=s.size:=by simp
 have:=run_convert_bytes_back (P:=prog) w 145 9 5 ⟨g,0,none⟩ cap (s.data.toList.map jr) Tryz.underlying145 Tryz.underlying5 Tryz.underlying9 (by intro j hj;rw[hl]at hj;rw[Addr.add_lit,Nat.zero_add,h.1 j hj,if_pos (by omega)];simp;rfl)
 rw[hl]at this;exact this
theorem ab6(s:BY)(w:World):∃w1 cap,(convert 9 145 (.string s)).run prog w=.ok (.slice (some ⟨w.heap.size,0,none⟩) s.size cap) w1/\(Bytes w1 w.heap.size s 0/\Below w.heap.size w w1)/\w.heap.size<w1.heap.size:=by
 refine⟨_,_,run_bytes_of_string (P:=prog) w 9 145 5 s Tryz.underlying9 Tryz.underlying145 Tryz.underlying5,⟨⟨?_,?_,?_⟩,?_⟩,?_⟩
 .intro j hj;rw[if_neg (by omega)];have e:=World.cell?_alloc_mark w.drew (bytesRow s (grownCap w s.size 0 5)) 5 ((bytesRow s (grownCap w s.size 0 5)).size,(bytesRow s (grownCap w s.size 0 5)).size+1) j;have e2:w.drew.heap.size=w.heap.size:=rfl;rw[e2]at e;rw[e];unfold bytesRow;rw[Array.getElem?_append_left (by simpa using hj)];simp[hj];rfl
 .intro j hj;have hsz:s.size<=(bytesRow s (grownCap w s.size 0 5)).size:=by simp[bytesRow]
  unfold World.frozen?;have e:=heap_alloc_new w.drew (.cells (bytesRow s (grownCap w s.size 0 5)) 5 ((bytesRow s (grownCap w s.size 0 5)).size,(bytesRow s (grownCap w s.size 0 5)).size+1));have e2:w.drew.heap.size=w.heap.size:=rfl;rw[e2]at e;rw[e];simp;omega
 .simp
 .exact((Below.refl _ w).drew).alloc (Nat.le_refl _) _
 .simp
theorem nH(s:BY)(w:World)(hs:s.size<=4000000):
  Calls prog 65 #[.string s] w fun e w'=>e=.returned (.string (small s))/\Below w.heap.size w w':=by
 obtain⟨w1,cap,hrun,hbs,hsz⟩:=ab6 s w;have HB:Hid (Bytes w1 w.heap.size s 0):=hbs.1;have HW:Hid (Below w.heap.size w w1):=hbs.2;clear hbs;go_in;go_wp2_with fail;go_loopg[10] s.size (fun g v10 wr=>∃k:Nat,k+g=s.size/\v10=.int .i64 (k:Int)/\Aside (Bytes wr w.heap.size s k/\Below w.heap.size w wr));case atStart=>exact⟨0,by omega,rfl,HB.out,HW.out⟩
 case round=>
  obtain⟨k,hk,rfl,hA⟩:=hrel;have H1:Hid (Bytes wr w.heap.size s k):=hA.out.1;have H2:Hid (Below w.heap.size w wr):=hA.out.2;clear hA;by_cases hlt:k<s.size
  .have hc:wr.cell? ⟨w.heap.size,k,none⟩=some (.int .u8 (s[k].toNat:Int)):=by rw[H1.out.1 k hlt,if_neg (by omega)]
   have hf:=H1.out.2.1 k hlt;have hl:=H1.out.2.2;have hb:s[k].toNat<256:=s[k].toNat_lt;have HS:Hid ((jr s[k]).toNat=if 65<=s[k].toNat/\s[k].toNat<=90 then s[k].toNat+32 else s[k].toNat):=ZV _;have HK:Hid (Bytes (wr.setCell ⟨w.heap.size,k,none⟩ (.int .u8 ((jr s[k]).toNat:Int))) w.heap.size s (k+1)):=H1.out.step hlt;have HN:Hid (jr s[k]=s[k]->Bytes wr w.heap.size s (k+1)):=H1.out.stay hlt;have HE:Hid ((jr s[k]).toNat=s[k].toNat->jr s[k]=s[k]):=fun h=>UInt8.toNat_inj.1 h;generalize hn:s[k].toNat=n at *;clear hn;by_cases h65:65<=n
   .by_cases h90:n<=90
    .have akH:(65:Int)<=(n:Int):=by omega
     have aml:(n:Int)<=90:=by omega
     go_wp2_with fail;go_roundg(gk-1);case measure=>omega
     case rel=>
      refine⟨k+1,by omega,by congr 1,?_,H2.out.setCell (Nat.le_refl _) _⟩;have e:=HS.out;rw[if_pos ⟨h65,h90⟩]at e;have:=HK.out;rw[e]at this;first
      |exact this
      |(have e2:((n+32:Nat):Int)=(n:Int)-65+97:=(by omega);rw[e2]at this;exact this)
    .have aml:(90:Int)<(n:Int):=by omega
     have akH:(65:Int)<=(n:Int):=by omega
     go_wp2_with fail;go_roundg(gk-1);case measure=>omega
     case rel=>exact⟨k+1,by omega,by congr 1,HN.out (HE.out (by rw[HS.out,if_neg (by omega)])),H2.out⟩
   .have akH:(n:Int)<65:=by omega
    go_wp2_with fail;go_roundg(gk-1);case measure=>omega
    case rel=>exact⟨k+1,by omega,by congr 1,HN.out (HE.out (by rw[HS.out,if_neg (by omega)])),H2.out⟩
  .have hcv:=H1.out.conv (cap:=cap) (by omega);go_wp2_with fail;go_ret;exact⟨rfl,H2.out⟩
section
section
variable {w w':WD} {g:Nat} {t:Tok}
end
end
end Go.Proofs.YtlliliddljkbfaaGreat
namespace Go.Proofs.YtlliliddljkbfaaGreat.Sp
open Go
def pre(s:BY):Nat->List UInt8->Bool
 |_,[]=>true
 |i,a::r=>pk s i==(a.toNat:Int)&&pre s (i+1) r
theorem drop_cons{s:BY}{i:Nat}(h:i<s.size):s.data.toList.drop i=s[i]::s.data.toList.drop (i+1):=by rw[List.drop_eq_getElem_cons (by simpa using h)];rfl
theorem afS(a b:UInt8):((a.toNat:Int)==(b.toNat:Int))=(b==a):=by
 rw[Bool.eq_iff_iff];simp only[beq_iff_eq];constructor
 .intro h;exact(UInt8.toNat_inj.1 AE).symm
 .intro h;rw[h]
theorem xI(s:BY):∀(l:List UInt8) (i:Nat),l.isPrefixOf (s.data.toList.drop i)=pre s i l
 |[],i=>by simp[pre]
 |a::r,i=>by
  by_cases h:i<s.size
  .rw[drop_cons h,List.isPrefixOf,xI s r (i+1),pre,zK h,afS]
  .have:s.data.toList.drop i=[]:=List.drop_eq_nil_of_le (by simpa using h);rw[this,pre,oK (by omega)];have:((-1:Int)==(a.toNat:Int))=false:=by rw[beq_eq_false_iff_ne];omega
   rw[this];simp
theorem afT(s:BY)(i:Nat)(l:BY):Lib.hasPrefix (s.extract i s.size).data.toList l.data.toList=pre s i l.data.toList:=by rw[Lib.extract_to_end,Lib.hasPrefix,xI]
theorem Fg(s:BY):∀f k,s.size<=k+f->k<=s.size->Lib.index (s.data.toList.drop k) [42,47]=if lY s f k<s.size then((lY s f k:Nat):Int)-k else -1
 |0,k,h,h'=>by have:s.data.toList.drop k=[]:=List.drop_eq_nil_of_le (by simp;exact h);rw[this,lY,if_neg (by omega)];rfl
 |f+1,k,h,h'=>by
  by_cases hk:k<s.size
  .have hp:([42,47]:List UInt8).isPrefixOf (s[k]::s.data.toList.drop (k+1))=(pk s k==42&&pk s (k+1)==47):=by
    rw[<-drop_cons hk,xI];simp[pre]
   rw[drop_cons hk,Lib.index,hp];by_cases hs:pk s k=42/\pk s (k+1)=47
   .have e1:lY s (f+1) k=k:=by unfold lY;rw[if_neg (fun h=>h.2 hs)]
    have e2:(pk s k==42&&pk s (k+1)==47)=true:=by simp[hs]
    rw[e1,e2,if_pos rfl,if_pos hk];omega
   .have e1:lY s (f+1) k=lY s f (k+1):=by
     conv=>lhs;unfold lY
     rw[if_pos ⟨hk,hs⟩]
    have e2:(pk s k==42&&pk s (k+1)==47)=false:=by rw[Bool.eq_false_iff];intro h;exact hs (by simpa using h)
    have hge:=BF s f (k+1);rw[e1,e2,if_neg (by simp),Fg s f (k+1) (by omega) (by omega)];by_cases h2:lY s f (k+1)<s.size
    .rw[if_pos h2,if_pos h2,if_neg (by rw[beq_iff_eq];omega)];omega
    .rw[if_neg h2,if_neg h2,if_pos (by rfl)]
  .have hd:s.data.toList.drop k=[]:=List.drop_eq_nil_of_le (by simp;omega);have hge:=BF s (f+1) k;rw[hd,if_neg (by omega)];rfl
theorem Ia{s:BY}{k:Nat}(h:k<=s.size):Lib.index (s.extract k s.size).data.toList [42,47]=if star s k<s.size then((star s k:Nat):Int)-k else -1:=by rw[Lib.extract_to_end];exact Fg s s.size k AE h
theorem KW{s:BY}{k:Nat}(h:k<=s.size)(h':star s k<s.size):Lib.index (s.extract k s.size).data.toList [42,47]=((star s k:Nat):Int)-k:=by rw[Ia h,if_pos h']
theorem Ib{s:BY}{k:Nat}(h:k<=s.size)(h':s.size<=star s k):Lib.index (s.extract k s.size).data.toList [42,47] = -1:=by rw[Ia h,if_neg (by omega)]
end Go.Proofs.YtlliliddljkbfaaGreat.Sp
namespace Go.Proofs.YtlliliddljkbfaaGreat
open Go.Proofs.Tryz (prog)
open Go.RowKit Sp
def a0(s:BY)(k:Nat):Int:=if k<s.size then pk s k else 0
end Go.Proofs.YtlliliddljkbfaaGreat
namespace Go.Proofs.YtlliliddljkbfaaGreat
open Go
def akK(P:Program)(c:Code)(Q:Exit->Act->World->Prop):Exit->Act->World->Prop
 |.goto l,a,w=>∃rest,findLabel c l=some rest/\rest.wp P (Exit.noGoto Q) a w
 |e,a,w=>Q e a w
structure Fwd(P:Program)(c:Code)(Q Q':Exit->Act->World->Prop):Prop where
 go:∀l rest a w,findLabel c l=some rest->rest.wp P (Exit.noGoto Q) a w->Q' (.goto l) a w
 norm:∀a w,Q .normal a w->Q' .normal a w
 ret:∀a w,Q .ret a w->Q' .ret a w
 any:∀e a w,Exit.noGoto Q e a w->Q' e a w
theorem ji{P:Program}{c:Code}{Q:Exit->Act->World->Prop}{a:Act}{w:World}
  (h:∀Q':Exit->Act->World->Prop,Fwd P c Q Q'->c.wp P Q' a w):(Code.scope c).wp P Q a w:=by
 have h':=h (akK P c Q) ⟨fun l rest a w hf hr=>⟨rest,hf,hr⟩,fun a w hq=>hq,fun a w hq=>hq,fun e a w hq=>by cases e<;>first|exact hq|exact hq.elim⟩;intro b k cs;obtain⟨e,a₁,w₁,hq,harr⟩:=h' b (.inScope c::k) cs;cases e with
 |normal=>exact⟨.normal,a₁,w₁,hq,.head step_scope (Steps.trans harr (.one step_inScope))⟩
 |exit id=>exact⟨.exit id,a₁,w₁,hq,fun k' hk=>.head step_scope (harr k' (by simp[exitTo,hk]))⟩
 |goto l=>
  obtain⟨rest,hf,hr⟩:=hq;have hg:gotoIn l (.inScope c::k)=some (.code rest :: .inScope c::k):=by simp[gotoIn,hf]
  obtain⟨e₂,a₂,w₂,hq₂,harr₂⟩:=hr b (.inScope c::k) cs;have hs:=Steps.head (P:=P) step_scope (harr _ hg);cases e₂ with
  |normal=>exact⟨.normal,a₂,w₂,hq₂,Steps.trans hs (Steps.trans harr₂ (.one step_inScope))⟩
  |exit id=>exact⟨.exit id,a₂,w₂,hq₂,fun k' hk=>Steps.trans hs (harr₂ k' (by simp[exitTo,hk]))⟩
  |goto l'=>exact hq₂.elim
  |ret=>exact⟨_,a₂,w₂,hq₂,.of_steps hs harr₂⟩
  |panic ch=>exact⟨_,a₂,w₂,hq₂,.of_steps hs harr₂⟩
  |outgrown=>exact⟨_,a₂,w₂,hq₂,.of_steps hs harr₂⟩
 |ret=>exact⟨_,a₁,w₁,hq,.of_steps (.one step_scope) harr⟩
 |panic ch=>exact⟨_,a₁,w₁,hq,.of_steps (.one step_scope) harr⟩
 |outgrown=>exact⟨_,a₁,w₁,hq,.of_steps (.one step_scope) harr⟩
end Go.Proofs.YtlliliddljkbfaaGreat
namespace Go.Proofs.YtlliliddljkbfaaGreat
open Go.Proofs.Tryz (prog)
open Go.RowKit Sp
def aB(b:Nat)(s:BY)(k:Nat)(w w':WD):Prop:=Sc w' b s k/\Turn b w w'
theorem aB.drewN{b k:Nat}{s:BY}{w w':WD}(h:aB b s k w w')(n:Nat):aB b s k w (w'.drewN n):=⟨h.1.drewN n,h.2.drewN n⟩
theorem aB.set{b k:Nat}{s:BY}{w w':WD}(h:aB b s k w w')(j:Nat)(hj:j<=s.size):aB b s j w (w'.setCell ⟨b,1,none⟩ (.int .i64 (j:Int))):=⟨h.1.set j hj,h.2.setCell 1 _⟩
theorem aB.alloc{b k:Nat}{s:BY}{w w':WD}(h:aB b s k w w')(o:Obj):aB b s k w (w'.alloc o):=⟨h.1.alloc o,h.2.alloc o⟩
theorem aB.refl{b k:Nat}{s:BY}{w:WD}(h:Sc w b s k):aB b s k w w:=⟨h,Turn.refl _ _⟩
theorem aB.nh{b k:Nat}{s:BY}{w:WD}(h:Sc w b s k):Hid (aB b s k w (w.alloc (.cells #[.int .i64 0,.string ⟨#[]⟩,.string ⟨#[]⟩] 93 (0,0)))):=(aB.refl h).alloc _
theorem aB.trans{b j k:Nat}{s:BY}{w w1 w2:WD}(h:aB b s j w w1)(h':aB b s k w1 w2):aB b s k w w2:=⟨h'.1,h.2.trans h'.2⟩
theorem Sc.iP{w:WD}{b i:Nat}{s:BY}(h:Sc w b s i)(v:Int)(j:Nat)(hv:v=j)(hj:j<=s.size):Sc (w.setCell ⟨b,1,none⟩ (.int .i64 v)) b s j:=by rw[hv];exact h.set j hj
theorem aB.iP{b k:Nat}{s:BY}{w w':WD}(h:aB b s k w w')(v:Int)(j:Nat)(hv:v=j)(hj:j<=s.size):aB b s j w (w'.setCell ⟨b,1,none⟩ (.int .i64 v)):=by rw[hv];exact h.set j hj
theorem Vx(i:Nat):(i:Int)+1=((i+1:Nat):Int):=oo
theorem Ap(s:BY)(b i:Nat)(w:WD)(h:Sc w b s i)(hi:i<s.size):
  Calls prog 185 #[.pointer (some ⟨b,0,none⟩)] w fun e w'=>e=.returned (.string (one s i))/\aB b s (i+1) w w':=by
 have HS:=hid h;have h0:=h.c0;have h1:=h.c1;have hf:=h.f1;have hl:=h.lt;have hs:=h.len;clear h;go_in;go_wp2
 go_quiet (fail)
 go_wp2
 go_ret;refine⟨rfl,?_⟩;rw[Vx];exact((aB.refl HS.o).set (i+1) oo).drewN _
theorem lg(s:BY)(b i:Nat)(w:WD)(h:Sc w b s i):
  Calls prog 176 #[.pointer (some ⟨b,0,none⟩)] w fun e w'=>e=.returned (.tuple #[])/\aB b s (Sp.blk s i) w w':=by
 have HS:=hid h;clear h;go_in;go_wp2_with fail;refine ji (fun Q' hF=>?_);go_wp2_with fail;go_loopg[] s.size (fun g wr=>∃k:Nat,s.size<=k+g/\Aside (Ae s g k=Sp.blk s i/\aB b s k w wr));case atStart=>exact⟨i,oo,rfl,aB.refl HS.o⟩
 case round=>
  obtain⟨k,hk,hA⟩:=hrel;have H1:=hid hA.o.1;have H2:=hid hA.o.2;clear hA;have h0:=H2.o.1.c0;have h1:=H2.o.1.c1;have hf:=H2.o.1.f1;have hl:=H2.o.1.lt;have hs:=H2.o.1.len;cases hbl:aO (pk s k)
  .have HV:Hid (Sp.blk s i=k):=by
    show Sp.blk s i=k;rw[<-H1.o];cases gk with
    |zero=>rfl
    |succ f=>unfold Ae;rw[if_neg (by simp[hbl])]
   go_wp2_with fail;refine(ak s b k _ k _ H2.o.1 ⟨oo,oo,oo⟩).mono ?_;rintro e w1 ⟨rfl,n1,rfl⟩;go_wp2_with fail;refine(aW _ _).mono ?_;rintro e w1 ⟨rfl,rfl⟩;go_wp2_with fail;go_step3
   refine hF.go 0 _ _ _ rfl ?_;go_wp2
   simp only[Exit.noGoto];go_end0
   refine⟨rfl,?_⟩;rw[HV.o];exact H2.o.drewN _
  .have hlt:k<s.size:=dY (lZ hbl);obtain⟨f,rfl⟩:∃f,gk=f+1:=⟨gk-1,oo⟩;have HV:Hid (Ae s f (k+1)=Sp.blk s i):=by
    have:=H1.o;unfold Ae at this;rw[if_pos hbl]at this;exact this
   go_wp2_with fail;refine(ak s b k _ k _ H2.o.1 ⟨oo,oo,oo⟩).mono ?_;rintro e w1 ⟨rfl,n1,rfl⟩;go_wp2_with fail;refine(aW _ _).mono ?_;rintro e w1 ⟨rfl,rfl⟩;go_wp2_with fail;go_roundg f;case measure=>omega
   case rel=>rw[Vx];exact⟨k+1,oo,HV.o,(H2.o.drewN _).set (k+1) oo⟩
theorem Ic(s:BY)(b i:Nat)(w:WD)(h:Sc w b s i)(hlt:i<s.size):
  Calls prog 288 #[.pointer (some ⟨b,0,none⟩)] w fun e w'=>e=.returned (.string (one s i))/\aB b s (i+1) w w':=by
 have W:Hid (aB b s i w w):=aB.refl h;clear h;have hne:(pk s i == -1)=false:=by have:=tK hlt;simp;omega
 go_in;go_wp2_with fail;refine cZ (ak s b (i) _ (i) _ (W.o.1) ⟨oo,oo,oo⟩) fun nq=>?_;go_wp2_with fail;refine pmb (Ap s b i _ (W.o.1.drewN _) hlt) fun w1 aj=>?_;have W1:Hid (aB b s (i+1) w w1):=(W.o.drewN _).trans aj;clear aj;go_wp2_with fail;go_ret;exact⟨rfl,W1.o⟩
theorem FV(s:BY)(b i:Nat)(w:WD)(h:Sc w b s i)(hlt:s.size<=i):
  Calls prog 288 #[.pointer (some ⟨b,0,none⟩)] w fun e w'=>e=.returned (.string Ec)/\aB b s i w w':=by
 have W:Hid (aB b s i w w):=aB.refl h;clear h;have hne:(pk s i == -1)=true:=by rw[oK hlt];rfl
 go_in;go_wp2_with fail;refine cZ (ak s b (i) _ (i) _ (W.o.1) ⟨oo,oo,oo⟩) fun nq=>?_;go_wp2_with fail;go_ret;exact⟨rfl,W.o.drewN _⟩
theorem Fh(n m:Nat)(hn:n<=255)(W:WD)(hW:W.heap.size=m):
  (convert 145 9 (.slice (some ⟨m,0,none⟩) 1 1)).run prog (W.alloc (.cells #[.int .u8 (n:Int)] 5))=.ok (.string (E8 n)) (W.alloc (.cells #[.int .u8 (n:Int)] 5)):=by
 subst hW;refine run_convert_bytes_back (P:=prog) _ 145 9 5 _ 1 [UInt8.ofNat n] Tryz.underlying145 Tryz.underlying5 Tryz.underlying9 ?_;intro j hj;obtain rfl:j=0:=by simpa using hj
 have e:((⟨W.heap.size,0,none⟩:Addr).add 0)=⟨W.heap.size,0,none⟩:=rfl;rw[e,World.cell?_alloc_mark];simp;omega
theorem BU(s:BY)(b i:Nat)(w:WD)(h:Sc w b s i)(hi:i<s.size):
  Calls prog 239 #[.pointer (some ⟨b,0,none⟩)] w fun e w'=>e=.returned (.string (esc s i).1)/\aB b s (esc s i).2 w w':=by
 have W:Hid (aB b s i w w):=aB.refl h;clear h;have c00:=W.o.1.c0;have c10:=W.o.1.c1;have KY:=W.o.1.f1;have KZ:=W.o.1.lt;have cs0:=W.o.1.len;have La:=W.o.1.le;go_in;go_wp2_with fail;refine ji (fun Q' hF=>?_);go_wp2_with fail;go_loopg[3,4] 6 (fun g n3 n4 wr=>∃d n:Nat,d+g=6/\n<16 ^ d/\n3=.int .i64 (n:Int)/\n4=.int .i64 (d:Int)/\Aside (tJ s g (i+1+d) n=tJ s 6 (i+1) 0/\aB b s (i+1+d) w wr));case atStart=>exact⟨0,0,oo,by decide,rfl,rfl,rfl,W.o.iP _ (i+1) oo oo⟩
 case round=>
  obtain⟨d,n,hd,hn,rfl,rfl,hA⟩:=hrel;have H1:=hid hA.o.1;have H2':Hid (aB b s (i+1+d) w wr):=hA.o.2;clear hA;obtain⟨k,HK⟩:∃k,Hid (k=i+1+d):=⟨_,rfl⟩;have H2:Hid (aB b s k w wr):=by show aB b s k w wr;rw[HK.o];exact H2'.o
  clear H2';have c02:=H2.o.1.c0;have c12:=H2.o.1.c1;have cf2:=H2.o.1.f1;have cl2:=H2.o.1.lt;have cs2:=H2.o.1.len;have ce2:=H2.o.1.le;have hkd:i+1+d<=k:=by have:=HK.o;omega
  have anf:k<=i+1+d:=by have:=HK.o;omega
  have hnb:n<16777216:=by
   have h1:16 ^ d<=16 ^ 6:=Nat.pow_le_pow_right oo oo;have h2:(16:Nat) ^ 6=16777216:=by decide
   omega
  have HP:=hid hn;clear hn;by_cases h6:d<6
  .have hlo:=abT s k;have hhi:=Yj s k;have hxl:=aiK (pk s k);have hxh:=aiJ (pk s k);obtain⟨f,rfl⟩:∃f,gk=f+1:=⟨gk-1,oo⟩;by_cases hx:0<=xk (pk s k)
   .have hlt:k<s.size:=dY (abV hx);have HV:Hid (tJ s f (i+1+(d+1)) (n*16+(xk (pk s k)).toNat)=tJ s 6 (i+1) 0):=by
     show _=_;rw[<-H1.o];conv=>rhs;unfold tJ
     have e:=HK.o;rw[<-e,if_pos hx,e];rfl
    have HN:Hid (n*16+(xk (pk s k)).toNat<16 ^ (d+1)):=by show _<_;rw[Nat.pow_succ];have:=HP.o;omega
    go_wp2_with fail;refine cZ (ak s b (k) _ (k) _ (H2.o.1) ⟨oo,oo,oo⟩) fun nq=>?_;go_wp2_with fail;refine jA (Ag _ _ oo oo) ?_;go_wp2_with fail;go_roundg f;case measure=>omega
    case rel=>exact⟨d+1,n*16+(xk (pk s k)).toNat,oo,HN.o,by congr 1;omega,by congr 1,HV.o,(H2.o.drewN _).iP _ _ oo oo⟩
   .have hx':xk (pk s k)<0:=oo;have HR:Hid (tJ s 6 (i+1) 0=(n,k)):=by
     show _=_;rw[<-H1.o,<-HK.o];unfold tJ;rw[if_neg hx]
    by_cases hd0:d=0
    .have akL:((d:Int)==0)=true:=by simp[hd0]
     have HD:=hid hd0;clear hd0;have hde:d<=0:=by have:=HD.o;omega
     go_wp2_with fail;refine cZ (ak s b (k) _ (k) _ (H2.o.1) ⟨oo,oo,oo⟩) fun nq=>?_;go_wp2_with fail;refine jA (Ag _ _ oo oo) ?_;go_wp2_with fail;go_step3
     refine hF.go 0 _ _ _ rfl ?_;clear hF;by_cases hks:k<s.size
     .have HV:Hid (esc s i=(one s k,k+1)):=by
       show esc s i=_;have e:k=i+1:=oo;unfold esc;dsimp only;rw[HR.o,if_pos (by show k=i+1;omega),<-e,if_pos hks,show i+2=k+1 by omega]
      go_wp2_with fail;refine pmb (Ic s b k _ (H2.o.1.drewN _) hks) fun w1 aj=>?_;have W1:Hid (aB b s (k+1) w w1):=(H2.o.drewN _).trans aj;clear aj;go_wp2_with fail;try rw[Exit.noGoto_ret]
      go_ret;rw[HV.o];exact⟨rfl,W1.o⟩
     .have HV:Hid (esc s i=(Ec,k)):=by
       show esc s i=_;have e:k=i+1:=oo;unfold esc;dsimp only;rw[HR.o,if_pos (by show k=i+1;omega),<-e,if_neg hks]
      go_wp2_with fail;refine pmb (FV s b k _ (H2.o.1.drewN _) oo) fun w1 aj=>?_;have W1:Hid (aB b s (k) w w1):=(H2.o.drewN _).trans aj;clear aj;go_wp2_with fail;try rw[Exit.noGoto_ret]
      go_ret;rw[HV.o];exact⟨rfl,W1.o⟩
    .have akL:((d:Int)==0)=false:=by simp[hd0]
     have hdp:0<d:=oo;clear hd0;go_wp2_with fail;refine cZ (ak s b (k) _ (k) _ (H2.o.1) ⟨oo,oo,oo⟩) fun nq=>?_;go_wp2_with fail;refine jA (Ag _ _ oo oo) ?_;go_wp2_with fail;go_step3
     refine hF.go 0 _ _ _ rfl ?_;clear hF;cases hbl:aO (pk s k)
     .by_cases hn1:n<1
      .have HV:Hid (esc s i=(Ec,k)):=by
        show esc s i=_;unfold esc;dsimp only;rw[HR.o];dsimp only;rw[if_neg oo,if_neg oo,if_neg (by simp[hbl])]
       go_wp2_with fail;refine cZ (ak s b (k) _ (k) _ (H2.o.1.drewN _) ⟨oo,oo,oo⟩) fun nq=>?_;go_wp2_with fail;refine jA (aW _ _) ?_;go_wp2_with fail;try rw[Exit.noGoto_ret]
       go_ret;rw[HV.o];exact⟨rfl,(H2.o.drewN _)⟩
      .by_cases hn2:255<n
       .have HV:Hid (esc s i=(Ec,k)):=by
         show esc s i=_;unfold esc;dsimp only;rw[HR.o];dsimp only;rw[if_neg oo,if_neg oo,if_neg (by simp[hbl])]
        go_wp2_with fail;refine cZ (ak s b (k) _ (k) _ (H2.o.1.drewN _) ⟨oo,oo,oo⟩) fun nq=>?_;go_wp2_with fail;refine jA (aW _ _) ?_;go_wp2_with fail;try rw[Exit.noGoto_ret]
        go_ret;rw[HV.o];exact⟨rfl,(H2.o.drewN _)⟩
       .have hcv:=Fh n wr.heap.size oo;have hcv0:=fun q=>Fh n wr.heap.size oo (wr.drewN q) rfl;have HV:Hid (esc s i=(E8 n,k)):=by
         show esc s i=_;unfold esc;dsimp only;rw[HR.o];dsimp only;rw[if_neg oo,if_pos ⟨oo,oo⟩,if_neg (by simp[hbl])]
        go_wp2_with fail;refine cZ (ak s b (k) _ (k) _ (H2.o.1.drewN _) ⟨oo,oo,oo⟩) fun nq=>?_;go_wp2_with fail;refine jA (aW _ _) ?_;go_wp2_with fail;try rw[Exit.noGoto_ret]
        go_ret;rw[HV.o];exact⟨rfl,(H2.o.drewN _).alloc _⟩
     .by_cases hn1:n<1
      .have hlt:k<s.size:=dY (lZ hbl);have HV:Hid (esc s i=(Ec,k+1)):=by
        show esc s i=_;unfold esc;dsimp only;rw[HR.o];dsimp only;rw[if_neg oo,if_neg oo,if_pos hbl]
       go_wp2_with fail;refine cZ (ak s b (k) _ (k) _ (H2.o.1.drewN _) ⟨oo,oo,oo⟩) fun nq=>?_;go_wp2_with fail;refine jA (aW _ _) ?_;go_wp2_with fail;try rw[Exit.noGoto_ret]
       go_ret;rw[HV.o];exact⟨rfl,((H2.o.drewN _).iP _ (k+1) oo oo)⟩
      .by_cases hn2:255<n
       .have hlt:k<s.size:=dY (lZ hbl);have HV:Hid (esc s i=(Ec,k+1)):=by
         show esc s i=_;unfold esc;dsimp only;rw[HR.o];dsimp only;rw[if_neg oo,if_neg oo,if_pos hbl]
        go_wp2_with fail;refine cZ (ak s b (k) _ (k) _ (H2.o.1.drewN _) ⟨oo,oo,oo⟩) fun nq=>?_;go_wp2_with fail;refine jA (aW _ _) ?_;go_wp2_with fail;try rw[Exit.noGoto_ret]
        go_ret;rw[HV.o];exact⟨rfl,((H2.o.drewN _).iP _ (k+1) oo oo)⟩
       .have hlt:k<s.size:=dY (lZ hbl);have hcv:=Fh n wr.heap.size oo;have hcv0:=fun q=>Fh n wr.heap.size oo (wr.drewN q) rfl;have HV:Hid (esc s i=(E8 n,k+1)):=by
         show esc s i=_;unfold esc;dsimp only;rw[HR.o];dsimp only;rw[if_neg oo,if_pos ⟨oo,oo⟩,if_pos hbl]
        go_wp2_with fail;refine cZ (ak s b (k) _ (k) _ (H2.o.1.drewN _) ⟨oo,oo,oo⟩) fun nq=>?_;go_wp2_with fail;refine jA (aW _ _) ?_;go_wp2_with fail;try rw[Exit.noGoto_ret]
        go_ret;rw[HV.o];exact⟨rfl,((H2.o.drewN _).iP _ (k+1) oo oo).alloc _⟩
  .have akL:((d:Int)==0)=false:=by simp;omega
   have HR:Hid (tJ s 6 (i+1) 0=(n,k)):=by show _=_;obtain rfl:gk=0:=oo;rw[<-H1.o,<-HK.o];rfl
   go_wp2_with fail;go_step3
   cases hbl:aO (pk s k)
   .by_cases hn1:n<1
    .have HV:Hid (esc s i=(Ec,k)):=by
      show esc s i=_;unfold esc;dsimp only;rw[HR.o];dsimp only;rw[if_neg oo,if_neg oo,if_neg (by simp[hbl])]
     go_wp2_with fail;refine cZ (ak s b (k) _ (k) _ (H2.o.1) ⟨oo,oo,oo⟩) fun nq=>?_;go_wp2_with fail;refine jA (aW _ _) ?_;go_wp2_with fail;refine hF.ret _ _ ?_;go_ret;rw[HV.o];exact⟨rfl,(H2.o.drewN _)⟩
    .by_cases hn2:255<n
     .have HV:Hid (esc s i=(Ec,k)):=by
       show esc s i=_;unfold esc;dsimp only;rw[HR.o];dsimp only;rw[if_neg oo,if_neg oo,if_neg (by simp[hbl])]
      go_wp2_with fail;refine cZ (ak s b (k) _ (k) _ (H2.o.1) ⟨oo,oo,oo⟩) fun nq=>?_;go_wp2_with fail;refine jA (aW _ _) ?_;go_wp2_with fail;refine hF.ret _ _ ?_;go_ret;rw[HV.o];exact⟨rfl,(H2.o.drewN _)⟩
     .have hcv:=Fh n wr.heap.size oo;have hcv0:=fun q=>Fh n wr.heap.size oo (wr.drewN q) rfl;have HV:Hid (esc s i=(E8 n,k)):=by
       show esc s i=_;unfold esc;dsimp only;rw[HR.o];dsimp only;rw[if_neg oo,if_pos ⟨oo,oo⟩,if_neg (by simp[hbl])]
      go_wp2_with fail;refine cZ (ak s b (k) _ (k) _ (H2.o.1) ⟨oo,oo,oo⟩) fun nq=>?_;go_wp2_with fail;refine jA (aW _ _) ?_;go_wp2_with fail;refine hF.ret _ _ ?_;go_ret;rw[HV.o];exact⟨rfl,(H2.o.drewN _).alloc _⟩
   .by_cases hn1:n<1
    .have hlt:k<s.size:=dY (lZ hbl);have HV:Hid (esc s i=(Ec,k+1)):=by
      show esc s i=_;unfold esc;dsimp only;rw[HR.o];dsimp only;rw[if_neg oo,if_neg oo,if_pos hbl]
     go_wp2_with fail;refine cZ (ak s b (k) _ (k) _ (H2.o.1) ⟨oo,oo,oo⟩) fun nq=>?_;go_wp2_with fail;refine jA (aW _ _) ?_;go_wp2_with fail;refine hF.ret _ _ ?_;go_ret;rw[HV.o];exact⟨rfl,((H2.o.drewN _).iP _ (k+1) oo oo)⟩
    .by_cases hn2:255<n
     .have hlt:k<s.size:=dY (lZ hbl);have HV:Hid (esc s i=(Ec,k+1)):=by
       show esc s i=_;unfold esc;dsimp only;rw[HR.o];dsimp only;rw[if_neg oo,if_neg oo,if_pos hbl]
      go_wp2_with fail;refine cZ (ak s b (k) _ (k) _ (H2.o.1) ⟨oo,oo,oo⟩) fun nq=>?_;go_wp2_with fail;refine jA (aW _ _) ?_;go_wp2_with fail;refine hF.ret _ _ ?_;go_ret;rw[HV.o];exact⟨rfl,((H2.o.drewN _).iP _ (k+1) oo oo)⟩
     .have hlt:k<s.size:=dY (lZ hbl);have hcv:=Fh n wr.heap.size oo;have hcv0:=fun q=>Fh n wr.heap.size oo (wr.drewN q) rfl;have HV:Hid (esc s i=(E8 n,k+1)):=by
       show esc s i=_;unfold esc;dsimp only;rw[HR.o];dsimp only;rw[if_neg oo,if_pos ⟨oo,oo⟩,if_pos hbl]
      go_wp2_with fail;refine cZ (ak s b (k) _ (k) _ (H2.o.1) ⟨oo,oo,oo⟩) fun nq=>?_;go_wp2_with fail;refine jA (aW _ _) ?_;go_wp2_with fail;refine hF.ret _ _ ?_;go_ret;rw[HV.o];exact⟨rfl,((H2.o.drewN _).iP _ (k+1) oo oo).alloc _⟩
theorem aiS(s:BY)(k:Nat)(h:k<s.size)(w:WD):(Instr.slice 9 (.string s) (some (.int .i64 (k:Int))) (some (.int .i64 ((k:Int)+1))) none).run prog w=.ok (.string (one s k)) w:=by rw[run_slice_string_if w 9 s .i64 .i64 _ _ Tryz.underlying9,if_pos ⟨oo,oo⟩,if_pos ⟨oo,oo⟩];congr 3
theorem fD(s:BY)(b i:Nat)(w:WD)(h:Sc w b s i):
  Calls prog 289 #[.pointer (some ⟨b,0,none⟩)] w fun e w'=>e=.returned (.tuple #[])/\aB b s (Sp.mW s i) w w':=by
 have HS:=hid h;clear h;go_in;go_wp2_with fail;refine ji (fun Q' hF=>?_);go_wp2_with fail;go_loopg[] s.size (fun g wr=>∃k:Nat,s.size<=k+g/\Aside (wU s g k=Sp.mW s i/\aB b s k w wr));case atStart=>exact⟨i,oo,rfl,aB.refl HS.o⟩
 case round=>
  obtain⟨k,hk,hA⟩:=hrel;have H1:=hid hA.o.1;have H2:=hid hA.o.2;clear hA;have h0:=H2.o.1.c0;have h1:=H2.o.1.c1;have hf:=H2.o.1.f1;have hl:=H2.o.1.lt;have hs:=H2.o.1.len;cases hbl:fG (pk s k)
  .have HV:Hid (Sp.mW s i=k):=by
    show Sp.mW s i=k;rw[<-H1.o];cases gk with
    |zero=>rfl
    |succ f=>unfold wU;rw[if_neg (by simp[hbl])]
   go_wp2_with fail;refine(ak s b k _ k _ H2.o.1 ⟨oo,oo,oo⟩).mono ?_;rintro e w1 ⟨rfl,n1,rfl⟩;go_wp2_with fail;refine(eY _ _).mono ?_;rintro e w1 ⟨rfl,rfl⟩;go_wp2_with fail;go_step3
   refine hF.go 0 _ _ _ rfl ?_;go_wp2
   simp only[Exit.noGoto];go_end0
   refine⟨rfl,?_⟩;rw[HV.o];exact H2.o.drewN _
  .have hlt:k<s.size:=dY (by have:=kM hbl;omega);obtain⟨f,rfl⟩:∃f,gk=f+1:=⟨gk-1,oo⟩;have HV:Hid (wU s f (k+1)=Sp.mW s i):=by
    have:=H1.o;unfold wU at this;rw[if_pos hbl]at this;exact this
   go_wp2_with fail;refine(ak s b k _ k _ H2.o.1 ⟨oo,oo,oo⟩).mono ?_;rintro e w1 ⟨rfl,n1,rfl⟩;go_wp2_with fail;refine(eY _ _).mono ?_;rintro e w1 ⟨rfl,rfl⟩;go_wp2_with fail;go_roundg f;case measure=>omega
   case rel=>rw[Vx];exact⟨k+1,oo,HV.o,(H2.o.drewN _).set (k+1) oo⟩
theorem jG(s:BY)(b i:Nat)(w:WD)(h:Sc w b s i):
  Calls prog 290 #[.pointer (some ⟨b,0,none⟩)] w fun e w'=>e=.returned (.tuple #[])/\aB b s (iq s i) w w':=by
 have W:Hid (aB b s i w w):=aB.refl h;clear h;have c00:=W.o.1.c0;have c10:=W.o.1.c1;have KY:=W.o.1.f1;have KZ:=W.o.1.lt;have cs0:=W.o.1.len;have La:=W.o.1.le;cases h1:(pk s i != 101)<;>cases h2:(pk s i != 69)
 .exfalso
  simp at h1 h2;omega
 .have E:Hid (pk s i=101):=by show pk s i=101;simpa using h1
  cases hsg:ou (pk s (i+1))
  .cases hd:fG (pk s (i+1))
   .have HV:Hid (iq s i=i):=by show iq s i=i;simp[iq,E.o,mX,hsg,hd]
    go_in;go_wp2_with fail;refine cZ (ak s b (i) _ (i) _ (W.o.1) ⟨oo,oo,oo⟩) fun nq=>?_;go_wp2_with fail;refine cZ (ak s b (i) _ (i+1) _ (W.o.1.drewN _) ⟨oo,oo,oo⟩) fun nq=>?_;go_wp2_with fail;refine jA (gB _ _) ?_;go_wp2_with fail;refine cZ (ak s b (i) _ (i+1) _ (W.o.1.drewN _) ⟨oo,oo,oo⟩) fun nq=>?_;go_wp2_with fail;refine jA (eY _ _) ?_;go_wp2_with fail;go_end0
    refine⟨rfl,?_⟩;rw[HV.o];exact W.o.drewN _
   .have hlt:i+1<s.size:=dY (by have:=kM hd;omega);have HV:Hid (iq s i=mW s (i+1)):=by show iq s i=_;simp[iq,E.o,mX,hsg,hd]
    go_in;go_wp2_with fail;refine cZ (ak s b (i) _ (i) _ (W.o.1) ⟨oo,oo,oo⟩) fun nq=>?_;go_wp2_with fail;refine cZ (ak s b (i) _ (i+1) _ (W.o.1.drewN _) ⟨oo,oo,oo⟩) fun nq=>?_;go_wp2_with fail;refine jA (gB _ _) ?_;go_wp2_with fail;refine cZ (ak s b (i) _ (i+1) _ (W.o.1.drewN _) ⟨oo,oo,oo⟩) fun nq=>?_;go_wp2_with fail;refine jA (eY _ _) ?_;go_wp2_with fail;refine pmb (fD s b (i+1) _ ((W.o.1.drewN _).iP _ (i+1) oo oo)) fun w1 aj=>?_;have W1:Hid (aB b s (mW s (i+1)) w w1):=((W.o.drewN _).iP _ (i+1) oo oo).trans aj;clear aj;go_wp2_with fail;go_end0
    refine⟨rfl,?_⟩;rw[HV.o];exact W1.o
  .cases hd:fG (pk s (i+2))
   .have HV:Hid (iq s i=i):=by show iq s i=i;simp[iq,E.o,mX,hsg,hd]
    go_in;go_wp2_with fail;refine cZ (ak s b (i) _ (i) _ (W.o.1) ⟨oo,oo,oo⟩) fun nq=>?_;go_wp2_with fail;refine cZ (ak s b (i) _ (i+1) _ (W.o.1.drewN _) ⟨oo,oo,oo⟩) fun nq=>?_;go_wp2_with fail;refine jA (gB _ _) ?_;go_wp2_with fail;refine cZ (ak s b (i) _ (i+2) _ (W.o.1.drewN _) ⟨oo,oo,oo⟩) fun nq=>?_;go_wp2_with fail;refine jA (eY _ _) ?_;go_wp2_with fail;go_end0
    refine⟨rfl,?_⟩;rw[HV.o];exact W.o.drewN _
   .have hlt:i+2<s.size:=dY (by have:=kM hd;omega);have HV:Hid (iq s i=mW s (i+2)):=by show iq s i=_;simp[iq,E.o,mX,hsg,hd]
    go_in;go_wp2_with fail;refine cZ (ak s b (i) _ (i) _ (W.o.1) ⟨oo,oo,oo⟩) fun nq=>?_;go_wp2_with fail;refine cZ (ak s b (i) _ (i+1) _ (W.o.1.drewN _) ⟨oo,oo,oo⟩) fun nq=>?_;go_wp2_with fail;refine jA (gB _ _) ?_;go_wp2_with fail;refine cZ (ak s b (i) _ (i+2) _ (W.o.1.drewN _) ⟨oo,oo,oo⟩) fun nq=>?_;go_wp2_with fail;refine jA (eY _ _) ?_;go_wp2_with fail;refine pmb (fD s b (i+2) _ ((W.o.1.drewN _).iP _ (i+2) oo oo)) fun w1 aj=>?_;have W1:Hid (aB b s (mW s (i+2)) w w1):=((W.o.drewN _).iP _ (i+2) oo oo).trans aj;clear aj;go_wp2_with fail;go_end0
    refine⟨rfl,?_⟩;rw[HV.o];exact W1.o
 .have E:Hid (pk s i=69):=by show pk s i=69;simpa using h2
  cases hsg:ou (pk s (i+1))
  .cases hd:fG (pk s (i+1))
   .have HV:Hid (iq s i=i):=by show iq s i=i;simp[iq,E.o,mX,hsg,hd]
    go_in;go_wp2_with fail;refine cZ (ak s b (i) _ (i) _ (W.o.1) ⟨oo,oo,oo⟩) fun nq=>?_;go_wp2_with fail;refine cZ (ak s b (i) _ (i) _ (W.o.1.drewN _) ⟨oo,oo,oo⟩) fun nq=>?_;go_wp2_with fail;refine cZ (ak s b (i) _ (i+1) _ (W.o.1.drewN _) ⟨oo,oo,oo⟩) fun nq=>?_;go_wp2_with fail;refine jA (gB _ _) ?_;go_wp2_with fail;refine cZ (ak s b (i) _ (i+1) _ (W.o.1.drewN _) ⟨oo,oo,oo⟩) fun nq=>?_;go_wp2_with fail;refine jA (eY _ _) ?_;go_wp2_with fail;go_end0
    refine⟨rfl,?_⟩;rw[HV.o];exact W.o.drewN _
   .have hlt:i+1<s.size:=dY (by have:=kM hd;omega);have HV:Hid (iq s i=mW s (i+1)):=by show iq s i=_;simp[iq,E.o,mX,hsg,hd]
    go_in;go_wp2_with fail;refine cZ (ak s b (i) _ (i) _ (W.o.1) ⟨oo,oo,oo⟩) fun nq=>?_;go_wp2_with fail;refine cZ (ak s b (i) _ (i) _ (W.o.1.drewN _) ⟨oo,oo,oo⟩) fun nq=>?_;go_wp2_with fail;refine cZ (ak s b (i) _ (i+1) _ (W.o.1.drewN _) ⟨oo,oo,oo⟩) fun nq=>?_;go_wp2_with fail;refine jA (gB _ _) ?_;go_wp2_with fail;refine cZ (ak s b (i) _ (i+1) _ (W.o.1.drewN _) ⟨oo,oo,oo⟩) fun nq=>?_;go_wp2_with fail;refine jA (eY _ _) ?_;go_wp2_with fail;refine pmb (fD s b (i+1) _ ((W.o.1.drewN _).iP _ (i+1) oo oo)) fun w1 aj=>?_;have W1:Hid (aB b s (mW s (i+1)) w w1):=((W.o.drewN _).iP _ (i+1) oo oo).trans aj;clear aj;go_wp2_with fail
    go_end0
    refine⟨rfl,?_⟩;rw[HV.o];exact W1.o
  .cases hd:fG (pk s (i+2))
   .have HV:Hid (iq s i=i):=by show iq s i=i;simp[iq,E.o,mX,hsg,hd]
    go_in;go_wp2_with fail;refine cZ (ak s b (i) _ (i) _ (W.o.1) ⟨oo,oo,oo⟩) fun nq=>?_;go_wp2_with fail;refine cZ (ak s b (i) _ (i) _ (W.o.1.drewN _) ⟨oo,oo,oo⟩) fun nq=>?_;go_wp2_with fail;refine cZ (ak s b (i) _ (i+1) _ (W.o.1.drewN _) ⟨oo,oo,oo⟩) fun nq=>?_;go_wp2_with fail;refine jA (gB _ _) ?_;go_wp2_with fail;refine cZ (ak s b (i) _ (i+2) _ (W.o.1.drewN _) ⟨oo,oo,oo⟩) fun nq=>?_;go_wp2_with fail;refine jA (eY _ _) ?_;go_wp2_with fail;go_end0
    refine⟨rfl,?_⟩;rw[HV.o];exact W.o.drewN _
   .have hlt:i+2<s.size:=dY (by have:=kM hd;omega);have HV:Hid (iq s i=mW s (i+2)):=by show iq s i=_;simp[iq,E.o,mX,hsg,hd]
    go_in;go_wp2_with fail;refine cZ (ak s b (i) _ (i) _ (W.o.1) ⟨oo,oo,oo⟩) fun nq=>?_;go_wp2_with fail;refine cZ (ak s b (i) _ (i) _ (W.o.1.drewN _) ⟨oo,oo,oo⟩) fun nq=>?_;go_wp2_with fail;refine cZ (ak s b (i) _ (i+1) _ (W.o.1.drewN _) ⟨oo,oo,oo⟩) fun nq=>?_;go_wp2_with fail;refine jA (gB _ _) ?_;go_wp2_with fail;refine cZ (ak s b (i) _ (i+2) _ (W.o.1.drewN _) ⟨oo,oo,oo⟩) fun nq=>?_;go_wp2_with fail;refine jA (eY _ _) ?_;go_wp2_with fail;refine pmb (fD s b (i+2) _ ((W.o.1.drewN _).iP _ (i+2) oo oo)) fun w1 aj=>?_;have W1:Hid (aB b s (mW s (i+2)) w w1):=((W.o.drewN _).iP _ (i+2) oo oo).trans aj;clear aj;go_wp2_with fail
    go_end0
    refine⟨rfl,?_⟩;rw[HV.o];exact W1.o
 .have HV:Hid (iq s i=i):=by
   show iq s i=i;have g1:pk s i≠101:=by simpa using h1
   have g2:pk s i≠69:=by simpa using h2
   simp[iq,g1,g2]
  go_in;go_wp2_with fail;refine cZ (ak s b (i) _ (i) _ (W.o.1) ⟨oo,oo,oo⟩) fun nq=>?_;go_wp2_with fail;refine cZ (ak s b (i) _ (i) _ (W.o.1.drewN _) ⟨oo,oo,oo⟩) fun nq=>?_;go_wp2_with fail;refine bodyPost_ret (results_none rfl _ _ _) rfl ?_;refine⟨rfl,?_⟩;rw[HV.o];exact W.o.drewN _
theorem IL(s:BY)(b i:Nat)(w:WD)(h:Sc w b s i):
  Calls prog 242 #[.pointer (some ⟨b,0,none⟩)] w fun e w'=>e=.returned (.string (s.extract i (bT s i)))/\aB b s (bT s i) w w':=by
 have W:Hid (aB b s i w w):=aB.refl h;clear h;have c00:=W.o.1.c0;have c10:=W.o.1.c1;have KY:=W.o.1.f1;have KZ:=W.o.1.lt;have cs0:=W.o.1.len;have La:=W.o.1.le;have hge:=afK s i;have hle:=yX W.o.1.le;cases hsg:ou (pk s i)
 .have hk:Hid (mX s i=i):=by show mX s i=i;simp[mX,hsg]
  have hd0:=GX (s:=s) (i:=i) oo;generalize hkk:mW s (i)=k at hd0;have HK:=hid hkk;clear hkk;cases e46:(pk s k==46)
  .have HV:Hid (bT s i=iq s k):=by show bT s i=_;simp only[bT,jL,hk.o,HK.o];rw[if_neg (fun h=>by simp[h.1]at e46)]
   go_in;go_wp2_with fail;refine cZ (ak s b (i) _ (i) _ (W.o.1) ⟨oo,oo,oo⟩) fun nq=>?_;go_wp2_with fail;refine jA (gB _ _) ?_;go_wp2_with fail;refine pmb (fD s b i _ (W.o.1.drewN _)) fun w1 aj=>?_;have W1':Hid (aB b s (mW s i) w w1):=(W.o.drewN _).trans aj;clear aj;have W1:Hid (aB b s k w w1):=by have:=W1'.o;rw[HK.o]at this;exact this
   clear W1';have c01:=W1.o.1.c0;have c11:=W1.o.1.c1;have cf1:=W1.o.1.f1;have cl1:=W1.o.1.lt;have cs1:=W1.o.1.len;have ce1:=W1.o.1.le;go_wp2_with fail;refine cZ (ak s b (k) _ (k) _ (W1.o.1) ⟨oo,oo,oo⟩) fun nq=>?_;go_wp2_with fail;refine pmb (jG s b k _ (W1.o.1.drewN _)) fun w3 aj=>?_;have W3':Hid (aB b s (iq s k) w w3):=(W1.o.drewN _).trans aj;clear aj;have W3:Hid (aB b s (bT s i) w w3):=by have:=W3'.o;rw[<-HV.o]at this;exact this
   clear W3';have c03:=W3.o.1.c0;have c13:=W3.o.1.c1;have cf3:=W3.o.1.f1;have cl3:=W3.o.1.lt;have cs3:=W3.o.1.len;have ce3:=W3.o.1.le;go_wp2_with fail;go_quiet (fail)
   go_wp2_with fail;go_ret;exact⟨rfl,W3.o.drewN _⟩
  .cases edg:fG (pk s (k+1));focus
    have HV:Hid (bT s i=iq s k):=by show bT s i=_;simp only[bT,jL,hk.o,HK.o];rw[if_neg (fun h=>by simp[h.2]at edg)]
    go_in;go_wp2_with fail;refine cZ (ak s b (i) _ (i) _ (W.o.1) ⟨oo,oo,oo⟩) fun nq=>?_;go_wp2_with fail;refine jA (gB _ _) ?_;go_wp2_with fail;refine pmb (fD s b i _ (W.o.1.drewN _)) fun w1 aj=>?_;have W1':Hid (aB b s (mW s i) w w1):=(W.o.drewN _).trans aj;clear aj;have W1:Hid (aB b s k w w1):=by have:=W1'.o;rw[HK.o]at this;exact this
    clear W1';have c01:=W1.o.1.c0;have c11:=W1.o.1.c1;have cf1:=W1.o.1.f1;have cl1:=W1.o.1.lt;have cs1:=W1.o.1.len;have ce1:=W1.o.1.le;go_wp2_with fail;refine cZ (ak s b (k) _ (k) _ (W1.o.1) ⟨oo,oo,oo⟩) fun nq=>?_;go_wp2_with fail;refine cZ (ak s b (k) _ (k+1) _ (W1.o.1.drewN _) ⟨oo,oo,oo⟩) fun nq=>?_;go_wp2_with fail;refine jA (eY _ _) ?_;go_wp2_with fail;refine pmb (jG s b k _ (W1.o.1.drewN _)) fun w3 aj=>?_;have W3':Hid (aB b s (iq s k) w w3):=(W1.o.drewN _).trans aj
   rotate_left;focus
    have hlt:k+1<s.size:=dY (by have:=kM edg;omega);have HV:Hid (bT s i=iq s (mW s (k+1))):=by show bT s i=_;simp only[bT,jL,hk.o,HK.o];rw[if_pos ⟨by simpa using e46,edg⟩]
    go_in;go_wp2_with fail;refine cZ (ak s b (i) _ (i) _ (W.o.1) ⟨oo,oo,oo⟩) fun nq=>?_;go_wp2_with fail;refine jA (gB _ _) ?_;go_wp2_with fail;refine pmb (fD s b i _ (W.o.1.drewN _)) fun w1 aj=>?_;have W1':Hid (aB b s (mW s i) w w1):=(W.o.drewN _).trans aj;clear aj;have W1:Hid (aB b s k w w1):=by have:=W1'.o;rw[HK.o]at this;exact this
    clear W1';have c01:=W1.o.1.c0;have c11:=W1.o.1.c1;have cf1:=W1.o.1.f1;have cl1:=W1.o.1.lt;have cs1:=W1.o.1.len;have ce1:=W1.o.1.le;go_wp2_with fail;refine cZ (ak s b (k) _ (k) _ (W1.o.1) ⟨oo,oo,oo⟩) fun nq=>?_;go_wp2_with fail;refine cZ (ak s b (k) _ (k+1) _ (W1.o.1.drewN _) ⟨oo,oo,oo⟩) fun nq=>?_;go_wp2_with fail;refine jA (eY _ _) ?_;go_wp2_with fail;refine pmb (fD s b (k+1) _ ((W1.o.1.drewN _).iP _ (k+1) oo oo)) fun w2 aj=>?_;have W2:Hid (aB b s (mW s (k+1)) w w2):=((W1.o.drewN _).iP _ (k+1) oo oo).trans aj;clear aj;go_wp2_with fail;refine pmb (jG s b (mW s (k+1)) _ W2.o.1) fun w3 aj=>?_;have W3':Hid (aB b s (iq s (mW s (k+1))) w w3):=W2.o.trans aj
   rotate_left;all_goals
    clear aj;have W3:Hid (aB b s (bT s i) w w3):=by have:=W3'.o;rw[<-HV.o]at this;exact this
    clear W3';have c03:=W3.o.1.c0;have c13:=W3.o.1.c1;have cf3:=W3.o.1.f1;have cl3:=W3.o.1.lt;have cs3:=W3.o.1.len;have ce3:=W3.o.1.le;go_wp2_with fail;go_quiet (fail)
    go_wp2_with fail;go_ret;exact⟨rfl,W3.o.drewN _⟩
 .have hk:Hid (mX s i=i+1):=by show mX s i=i+1;simp[mX,hsg]
  have hlt0:i<s.size:=dY (Yk hsg);have hd0:=GX (s:=s) (i:=i+1) oo;generalize hkk:mW s (i+1)=k at hd0;have HK:=hid hkk;clear hkk;cases e46:(pk s k==46)
  .have HV:Hid (bT s i=iq s k):=by show bT s i=_;simp only[bT,jL,hk.o,HK.o];rw[if_neg (fun h=>by simp[h.1]at e46)]
   go_in;go_wp2_with fail;refine cZ (ak s b (i) _ (i) _ (W.o.1) ⟨oo,oo,oo⟩) fun nq=>?_;go_wp2_with fail;refine jA (gB _ _) ?_;go_wp2_with fail;refine pmb (fD s b (i+1) _ ((W.o.1.drewN _).iP _ (i+1) oo oo)) fun w1 aj=>?_;have W1':Hid (aB b s (mW s (i+1)) w w1):=((W.o.drewN _).iP _ (i+1) oo oo).trans aj;clear aj;have W1:Hid (aB b s k w w1):=by have:=W1'.o;rw[HK.o]at this;exact this
   clear W1';have c01:=W1.o.1.c0;have c11:=W1.o.1.c1;have cf1:=W1.o.1.f1;have cl1:=W1.o.1.lt;have cs1:=W1.o.1.len;have ce1:=W1.o.1.le;go_wp2_with fail;refine cZ (ak s b (k) _ (k) _ (W1.o.1) ⟨oo,oo,oo⟩) fun nq=>?_;go_wp2_with fail;refine pmb (jG s b k _ (W1.o.1.drewN _)) fun w3 aj=>?_;have W3':Hid (aB b s (iq s k) w w3):=(W1.o.drewN _).trans aj;clear aj;have W3:Hid (aB b s (bT s i) w w3):=by have:=W3'.o;rw[<-HV.o]at this;exact this
   clear W3';have c03:=W3.o.1.c0;have c13:=W3.o.1.c1;have cf3:=W3.o.1.f1;have cl3:=W3.o.1.lt;have cs3:=W3.o.1.len;have ce3:=W3.o.1.le;go_wp2_with fail;go_quiet (fail)
   go_wp2_with fail;go_ret;exact⟨rfl,W3.o.drewN _⟩
  .cases edg:fG (pk s (k+1));focus
    have HV:Hid (bT s i=iq s k):=by show bT s i=_;simp only[bT,jL,hk.o,HK.o];rw[if_neg (fun h=>by simp[h.2]at edg)]
    go_in;go_wp2_with fail;refine cZ (ak s b (i) _ (i) _ (W.o.1) ⟨oo,oo,oo⟩) fun nq=>?_;go_wp2_with fail;refine jA (gB _ _) ?_;go_wp2_with fail;refine pmb (fD s b (i+1) _ ((W.o.1.drewN _).iP _ (i+1) oo oo)) fun w1 aj=>?_;have W1':Hid (aB b s (mW s (i+1)) w w1):=((W.o.drewN _).iP _ (i+1) oo oo).trans aj;clear aj;have W1:Hid (aB b s k w w1):=by have:=W1'.o;rw[HK.o]at this;exact this
    clear W1';have c01:=W1.o.1.c0;have c11:=W1.o.1.c1;have cf1:=W1.o.1.f1;have cl1:=W1.o.1.lt;have cs1:=W1.o.1.len;have ce1:=W1.o.1.le;go_wp2_with fail;refine cZ (ak s b (k) _ (k) _ (W1.o.1) ⟨oo,oo,oo⟩) fun nq=>?_;go_wp2_with fail;refine cZ (ak s b (k) _ (k+1) _ (W1.o.1.drewN _) ⟨oo,oo,oo⟩) fun nq=>?_;go_wp2_with fail;refine jA (eY _ _) ?_;go_wp2_with fail;refine pmb (jG s b k _ (W1.o.1.drewN _)) fun w3 aj=>?_;have W3':Hid (aB b s (iq s k) w w3):=(W1.o.drewN _).trans aj
   rotate_left;focus
    have hlt:k+1<s.size:=dY (by have:=kM edg;omega);have HV:Hid (bT s i=iq s (mW s (k+1))):=by show bT s i=_;simp only[bT,jL,hk.o,HK.o];rw[if_pos ⟨by simpa using e46,edg⟩]
    go_in;go_wp2_with fail;refine cZ (ak s b (i) _ (i) _ (W.o.1) ⟨oo,oo,oo⟩) fun nq=>?_;go_wp2_with fail;refine jA (gB _ _) ?_;go_wp2_with fail;refine pmb (fD s b (i+1) _ ((W.o.1.drewN _).iP _ (i+1) oo oo)) fun w1 aj=>?_;have W1':Hid (aB b s (mW s (i+1)) w w1):=((W.o.drewN _).iP _ (i+1) oo oo).trans aj;clear aj;have W1:Hid (aB b s k w w1):=by have:=W1'.o;rw[HK.o]at this;exact this
    clear W1';have c01:=W1.o.1.c0;have c11:=W1.o.1.c1;have cf1:=W1.o.1.f1;have cl1:=W1.o.1.lt;have cs1:=W1.o.1.len;have ce1:=W1.o.1.le;go_wp2_with fail;refine cZ (ak s b (k) _ (k) _ (W1.o.1) ⟨oo,oo,oo⟩) fun nq=>?_;go_wp2_with fail;refine cZ (ak s b (k) _ (k+1) _ (W1.o.1.drewN _) ⟨oo,oo,oo⟩) fun nq=>?_;go_wp2_with fail;refine jA (eY _ _) ?_;go_wp2_with fail;refine pmb (fD s b (k+1) _ ((W1.o.1.drewN _).iP _ (k+1) oo oo)) fun w2 aj=>?_;have W2:Hid (aB b s (mW s (k+1)) w w2):=((W1.o.drewN _).iP _ (k+1) oo oo).trans aj;clear aj;go_wp2_with fail;refine pmb (jG s b (mW s (k+1)) _ W2.o.1) fun w3 aj=>?_;have W3':Hid (aB b s (iq s (mW s (k+1))) w w3):=W2.o.trans aj
   rotate_left;all_goals
    clear aj;have W3:Hid (aB b s (bT s i) w w3):=by have:=W3'.o;rw[<-HV.o]at this;exact this
    clear W3';have c03:=W3.o.1.c0;have c13:=W3.o.1.c1;have cf3:=W3.o.1.f1;have cl3:=W3.o.1.lt;have cs3:=W3.o.1.len;have ce3:=W3.o.1.le;go_wp2_with fail;go_quiet (fail)
    go_wp2_with fail;go_ret;exact⟨rfl,W3.o.drewN _⟩
end Go.Proofs.YtlliliddljkbfaaGreat
namespace Go.Proofs.YtlliliddljkbfaaGreat
open Go.Proofs.Tryz (prog)
open Go.RowKit
def aG:List ByteArray->ByteArray
 |[]=>ByteArray.empty
 |x::r=>x++aG r
def total:List ByteArray->Nat
 |[]=>0
 |x::r=>x.size+total r
theorem dh:∀(a b:List ByteArray),total (a++b)=total a+total b
 |[],b=>by simp[total]
 |x::a,b=>by simp[total,dh a b];omega
theorem qG:∀(a b:List ByteArray),aG (a++b)=aG a++aG b
 |[],b=>by simp[aG]
 |x::a,b=>by simp[aG,qG a b,ByteArray.append_assoc]
theorem oQ:∀(a:List ByteArray),(aG a).size=total a
 |[]=>rfl
 |x::a=>by simp[aG,total,oQ a]
theorem dw(a:List ByteArray)(x:ByteArray):aG (a++[x])=aG a++x:=by simp[qG,aG]
theorem take_snoc{α:Type}(l:List α)(k:Nat)(h:k<l.length):l.take (k+1)=l.take k++[l[k]]:=by rw[List.take_succ_eq_append_getElem h]
theorem pK(l:List ByteArray)(k:Nat):total (l.take k)<=total l:=by have:=dh (l.take k) (l.drop k);rw[List.take_append_drop]at this;omega
theorem Qw(a b:ByteArray):byteCells (a++b)=byteCells a++byteCells b:=by simp[byteCells,ByteArray.data_append]
theorem ZT(ps:List ByteArray)(g cap base:Nat)(w:World)(h:w.ownsRow base 9 1 (.slice (some ⟨g,0,none⟩) ps.length cap) ps.length (ps.map Value.string))(hn:ps.length<=1099511627776)(ht:total ps<=1099511627776):
  Calls prog 72 #[.slice (some ⟨g,0,none⟩) ps.length cap] w fun e w'=>e=.returned (.string (aG ps))/\Below w.heap.size w w':=by
 have hcell:∀k (hk:k<ps.length),w.cell? ⟨g,k,none⟩=some (.string ps[k]):=by intro k hk;have:=h.cells (g:=g) rfl k (.string ps[k]) (by simp[hk]);rwa[Addr.add_lit,Nat.zero_add]at this
 have amk:g<w.heap.size:=(h.lt g rfl).2;clear h;have HC:Hid (∀k (hk:k<ps.length),w.cell? ⟨g,k,none⟩=some (.string ps[k])):=hcell;clear hcell;obtain⟨iU,hiU,hzU,hsU,hbU⟩:=info_u8;have HI:Hid (prog.info? 5=some iU/\iU.zero=some (.int .u8 0)/\iU.size=1/\iU.bytes=1):=⟨hiU,hzU,hsU,hbU⟩;clear hiU hzU hsU hbU;go_in;go_wp2_with fail;go_loopg[3,11] ps.length (fun gg v3 v11 wr=>∃k:Nat,k+gg=ps.length/\v11=.int .i64 (k:Int)/\v3=.int .i64 (total (ps.take k):Int)/\Aside (w=wr));case atStart=>exact⟨0,by omega,rfl,rfl,rfl⟩
 case round=>
  obtain⟨k,hk,rfl,rfl,hA⟩:=hrel;obtain rfl:=hA.out;clear hA;have hle:=pK ps k;by_cases hlt:k<ps.length
  .have hc:=HC.out k hlt;have hT:Hid (total (ps.take (k+1))=total (ps.take k)+ps[k].size):=by
    show _=_;rw[take_snoc ps k hlt,dh];simp[total]
   have hle2:=pK ps (k+1);have hsz:ps[k].size<=1099511627776:=by have:=hT.out;omega
   clear hle2;go_wp2_with fail;go_roundg(gk-1);case measure=>omega
   case rel=>exact⟨k+1,by omega,by congr 1,by rw[hT.out];congr 1,rfl⟩
  .have hk2:Hid (k=ps.length):=by show k=_;omega
   have hT:Hid (ps.take k=ps):=by show _=_;rw[hk2.out];simp
   have hsum:Hid (total (ps.take k)=total ps):=by show _=_;rw[hT.out]
   generalize hm:total (ps.take k)=m at *;have Hm:Hid (m=total ps):=hsum.out;clear hm hsum hT;have ane:m<=1099511627776:=by omega
   go_wp2_with(at_make;refine wpList_make_own _ rfl _ _ 145 rfl w.heap.size 5 iU (.int .u8 0) 1 Tryz.underlying145 HI.out.1 HI.out.2.1 HI.out.2.2.1 _ _ _ m rfl rfl rfl ?_ ?_ ?_ ?_)
   .rw[HI.out.2.2.2];omega
   .unfold maxLen;omega
   .exact Nat.le_refl _
   intro w1 hown1 Qx;have hb1:Below w.heap.size w w1:=(Below.refl _ _).grown Qx (Nat.le_refl _) (fun _ h=>by cases h);have HB1:Hid (Below w.heap.size w w1):=hb1;have uS:Hid (w1.ownsRow w.heap.size 5 1 (.slice (some ⟨w.heap.size,0,none⟩) 0 m) 0 []):=hown1;clear hown1 Qx hb1;go_wp2_with fail;go_loopg[6,24] ps.length (fun gg v6 v24 w2=>∃j:Nat,j+gg=ps.length/\v24=.int .i64 (j:Int)/\v6=.slice (some ⟨w.heap.size,0,none⟩) (total (ps.take j)) m /\
    Aside (w2.ownsRow w.heap.size 5 1 (.slice (some ⟨w.heap.size,0,none⟩) (total (ps.take j)) m) (total (ps.take j)) (byteCells (aG (ps.take j)))/\Below w.heap.size w w2))
   case atStart=>exact⟨0,by omega,rfl,rfl,uS.out,HB1.out⟩
   case round=>
    obtain⟨j,hj,rfl,rfl,hA⟩:=hrel;have HO:Hid (wr.ownsRow w.heap.size 5 1 (.slice (some ⟨w.heap.size,0,none⟩) (total (ps.take j)) m) (total (ps.take j)) (byteCells (aG (ps.take j)))):=hA.out.1;have HB:Hid (Below w.heap.size w wr):=hA.out.2;clear hA;have hle2:=pK ps j;by_cases hlt2:j<ps.length
    .have hc:wr.cell? ⟨g,j,none⟩=some (.string ps[j]):=by
      rw[HB.out.cell (p:=⟨g,j,none⟩) amk];exact HC.out j hlt2
     have hT:Hid (total (ps.take (j+1))=total (ps.take j)+ps[j].size):=by show _=_;rw[take_snoc ps j hlt2,dh];simp[total]
     have hle3:total (ps.take j)+ps[j].size<=m:=by have h1:=pK ps (j+1);have h2:=hT.out;have h3:=Hm.out;omega
     generalize hpj:ps[j]=q at *;generalize htj:total (ps.take j)=tj at *;have Hpj:Hid (ps[j]=q):=hpj;have Htj:Hid (total (ps.take j)=tj):=htj;clear hpj htj;go_wp2_with(at_builtin;refine wpList_append_str _ rfl _ _ 145 9 rfl w.heap.size 5 iU Tryz.underlying145 Tryz.underlying9 HI.out.1 HI.out.2.2.1 w.heap.size tj m (byteCells (aG (ps.take j))) rfl HO.out q rfl hle3 ?_);intro w3 hown3 ab5;have HO3:Hid (w3.ownsRow w.heap.size 5 1 (.slice (some ⟨w.heap.size,0,none⟩) (tj+q.size) m) (tj+q.size) (byteCells (aG (ps.take j))++byteCells q)):=hown3;have HB3:Hid (Below w.heap.size w w3):=HB.out.grown ab5 HB.out.size (fun k hk=>by cases hk;exact Nat.le_refl _);clear hown3 ab5;go_wp2_with fail;go_roundg(gk-1);case measure=>omega
     case rel=>refine⟨j+1,by omega,by congr 1,by rw[hT.out],?_,HB3.out⟩;rw[hT.out,take_snoc ps j hlt2,dw,Qw,Hpj.out];exact HO3.out
    .have hT:Hid (ps.take j=ps):=by show _=_;rw[List.take_of_length_le (by omega)]
     have hcv:(convert 145 9 (.slice (some ⟨w.heap.size,0,none⟩) (total (ps.take j)) m)).run prog wr=.ok (.string (aG ps)) wr:=by
      have h1:=HO.out;rw[hT.out]at h1⊢;rw[byteCells_map]at h1;have h2:=conv_own (P:=prog) wr 145 9 5 Tryz.underlying145 Tryz.underlying5 Tryz.underlying9 (base:=w.heap.size) (v:=.slice (some ⟨w.heap.size,0,none⟩) (total ps) m) (aG ps).data.toList (by
       have e:(aG ps).data.toList.length=total ps:=by rw[<-oQ];rfl
       rw[e];exact h1)
      simpa using h2
     go_wp2_with fail;go_ret;exact⟨rfl,HB.out⟩
theorem ZU(w:World):Calls prog 72 #[.slice none 0 0] w fun e w'=>e=.returned (.string ByteArray.empty)/\Below w.heap.size w w':=by
 obtain⟨iU,hiU,hzU,hsU,hbU⟩:=info_u8;have HI:Hid (prog.info? 5=some iU/\iU.zero=some (.int .u8 0)/\iU.size=1/\iU.bytes=1):=⟨hiU,hzU,hsU,hbU⟩;clear hiU hzU hsU hbU;go_in;go_wp2_with fail;go_loopg[3,11] 0 (fun gg v3 v11 wr=>v11=.int .i64 0/\v3=.int .i64 0/\Aside (w=wr));case atStart=>exact⟨rfl,rfl,rfl⟩
 case round=>
  obtain⟨rfl,rfl,hA⟩:=hrel;obtain rfl:=hA.out;clear hA;go_wp2_with(at_make;refine wpList_make_own _ rfl _ _ 145 rfl w.heap.size 5 iU (.int .u8 0) 1 Tryz.underlying145 HI.out.1 HI.out.2.1 HI.out.2.2.1 _ _ _ 0 rfl rfl rfl ?_ ?_ ?_ ?_)
  .omega
  .unfold maxLen;omega
  .exact Nat.le_refl _
  intro w1 hown1 Qx;have HB1:Hid (Below w.heap.size w w1):=(Below.refl _ _).grown Qx (Nat.le_refl _) (fun _ h=>by cases h);have uS:Hid (w1.ownsRow w.heap.size 5 1 (.slice (some ⟨w.heap.size,0,none⟩) 0 0) 0 []):=hown1;clear hown1 Qx;go_wp2_with fail;go_loopg[6,24] 0 (fun gg v6 v24 w2=>v24=.int .i64 0/\v6=.slice (some ⟨w.heap.size,0,none⟩) 0 0/\Aside (w1=w2));case atStart=>exact⟨rfl,rfl,rfl⟩
  case round=>
   obtain⟨rfl,rfl,hA⟩:=hrel;obtain rfl:=hA.out;clear hA;have hcv:(convert 145 9 (.slice (some ⟨w.heap.size,0,none⟩) 0 0)).run prog w1=.ok (.string ByteArray.empty) w1:=conv_own (P:=prog) w1 145 9 5 Tryz.underlying145 Tryz.underlying5 Tryz.underlying9 (base:=w.heap.size) (v:=.slice (some ⟨w.heap.size,0,none⟩) 0 0) [] uS.out
   go_wp2_with fail;go_ret;exact⟨rfl,HB1.out⟩
theorem dQ(ps:List ByteArray)(base:Nat)(v:Value)(w:World)(h:w.ownsRow base 9 1 v ps.length (ps.map Value.string))(hn:ps.length<=1099511627776)(ht:total ps<=1099511627776):
  Calls prog 72 #[v] w fun e w'=>e=.returned (.string (aG ps))/\Below w.heap.size w w':=by
 rcases h.2 with⟨rfl,h0⟩|⟨g,cap,cur,rfl,_⟩
 .have:ps=[]:=List.eq_nil_of_length_eq_zero h0;subst this;exact ZU w
 .exact ZT ps g cap base w h hn ht
end Go.Proofs.YtlliliddljkbfaaGreat
namespace Go.Proofs.YtlliliddljkbfaaGreat
open Go.Proofs.Tryz (prog)
open Go.RowKit Sp
theorem eF{w w':WD}{base:Nat}{e:TypeId}{size:Nat}{v:Av}{n:Nat}{xs:List Av}{b:Nat}(h:w.ownsRow base e size v n xs)(ht:Turn b w w')(hb:b<base):w'.ownsRow base e size v n xs:=by
 refine⟨h.1,?_⟩;rcases h.2 with hn|⟨g,cap,cur,rfl,hbg,hgg,rest⟩
 .exact .inl hn
 .refine .inr ⟨g,cap,cur,rfl,hbg,?_,rest⟩;rw[ht.block g (Ax hgg) oo];exact hgg
theorem bP{w:WD}{base:Nat}{e:TypeId}{size:Nat}{v:Av}{n:Nat}{xs:List Av}(h:w.ownsRow base e size v n xs)(k:Nat):(w.drewN k).ownsRow base e size v n xs:=h
theorem aB.grown{b k:Nat}{s:BY}{w w1 w2:WD}{row:Option Nat}(h:aB b s k w w1)(hg:w1.grownBy w2 row)(hb:b<w.heap.size)(hrow:∀r,row=some r->w.heap.size<=r):aB b s k w w2:=by
 have hsz:=h.2.size;have hp:=h.1.pos;refine⟨⟨?_,?_,h.1.pos,h.1.len,h.1.le⟩,?_⟩
 .rw[hg.block b oo (fun e=>by have:=hrow b e.symm;omega)];exact h.1.blk
 .obtain⟨m,hm⟩:=h.1.glob;exact⟨m,by rw[<-hm];exact World.cell?_of_block (w:=w1) (hg.block 0 oo (fun e=>by have:=hrow 0 e.symm;omega))⟩
 .exact⟨hg.os.trans h.2.os,hg.tape.trans h.2.tape,hg.output.trans h.2.output,Nat.le_trans hsz hg.size,fun j hj hjb=>(hg.block j oo (fun e=>by have:=hrow j e.symm;omega)).trans (h.2.block j hj hjb)⟩
theorem aB.below{b k:Nat}{s:BY}{w w1 w2:WD}(h:aB b s k w w1)(hb:Below w1.heap.size w1 w2):aB b s k w w2:=by
 have hl:=h.1.lt;have hp:=h.1.pos;refine⟨⟨?_,?_,h.1.pos,h.1.len,h.1.le⟩,h.2.trans (Turn.of_below hb)⟩
 .rw[hb.block b hl];exact h.1.blk
 .obtain⟨m,hm⟩:=h.1.glob;exact⟨m,by rw[<-hm];exact hb.cell (p:=⟨0,0,none⟩) (by show 0<w1.heap.size;omega)⟩
theorem aT(x:BY):∀u∈[Value.string x],u.oneCell'=true:=by simp[Value.oneCell']
theorem Ar(s:BY)(b i:Nat)(w:WD)(h:Sc w b s i):
  Calls prog 180 #[.pointer (some ⟨b,0,none⟩)] w fun e w'=>e=.returned (.string (Sp.name s i).1)/\aB b s (Sp.name s i).2 w w':=by
 have W:Hid (aB b s i w w):=aB.refl h;clear h;have hbw:b<w.heap.size:=W.o.1.lt;have hs:s.size<=600:=W.o.1.len;obtain⟨iS,wK⟩:=info_str;have HI:=hid wK;clear wK;go_in;go_wp2_with fail;refine ji (fun Q' hF=>?_);go_wp2_with fail;go_loopg[3] s.size (fun g v3 wr=>∃(v:Av) (k:Nat) (ps:List BY),v=v3/\s.size<=k+g/\ps.length<=k/\total ps<=k/\Aside (iK s g k (aG ps)=Sp.name s i/\wr.ownsRow w.heap.size 9 1 v ps.length (ps.map Value.string)/\aB b s k w wr));case atStart=>exact⟨_,i,[],rfl,oo,by simp,by simp[total],rfl,World.ownsRow_nil _ _ _ _,W.o⟩
 case round=>
  obtain⟨v3,k,ps,rfl,hk,hpl,hpt,hA⟩:=hrel;have H1:=hid hA.o.1;have HO:=hid hA.o.2.1;have H2:=hid hA.o.2.2;clear hA;have hke:=H2.o.1.le;cases hn:lX (pk s k)
  .cases he:kY s k
   .have HV:Hid (Sp.name s i=(aG ps,k)):=by
     show _=_;rw[<-H1.o];cases gk with
     |zero=>rfl
     |succ f=>unfold iK;rw[if_neg (by simp[hn]),if_neg (by simp[he])]
    go_wp2_with fail;refine cZ (ak s b (k) _ (k) _ (H2.o.1) ⟨oo,oo,oo⟩) fun nq=>?_;go_wp2_with fail;refine jA (nC _ _) ?_;go_wp2_with fail;refine cZ (fA s b (k) _ (k) _ (H2.o.1.drewN _) ⟨oo,oo,oo⟩) fun nq=>?_;go_wp2_with fail;go_step3
    refine hF.go 0 _ _ _ rfl ?_;clear hF;go_wp2_with fail;refine pmb (dQ ps w.heap.size v3 _ (bP HO.o _) oo oo) fun w1 hb1=>?_;have W1:Hid (aB b s k w w1):=(H2.o.drewN _).below hb1;clear hb1;go_wp2_with fail;try rw[Exit.noGoto_ret]
    go_ret;rw[HV.o];exact⟨rfl,W1.o⟩
   .have hlt:k<s.size:=Oc he;have hle:=uX hlt;have hgt:=oL s k;obtain⟨f,rfl⟩:∃f,gk=f+1:=⟨gk-1,oo⟩;have HV:Hid (iK s f (esc s k).2 (aG (ps++[(esc s k).1]))=Sp.name s i):=by
     show _=_;rw[<-H1.o,dw];conv=>rhs;unfold iK
     rw[if_neg (by simp[hn]),if_pos he]
    have hsz:Hid ((esc s k).1.size=1):=kN;go_wp2_with fail;refine cZ (ak s b (k) _ (k) _ (H2.o.1) ⟨oo,oo,oo⟩) fun nq=>?_;go_wp2_with fail;refine jA (nC _ _) ?_;go_wp2_with fail;refine cZ (fA s b (k) _ (k) _ (H2.o.1.drewN _) ⟨oo,oo,oo⟩) fun nq=>?_;go_wp2_with fail;refine pmb (BU s b k _ (H2.o.1.drewN _) hlt) fun w1 aj=>?_;have W1:Hid (aB b s (esc s k).2 w w1):=(H2.o.drewN _).trans aj;have uS:Hid (w1.ownsRow w.heap.size 9 1 v3 ps.length (ps.map Value.string)):=eF (bP HO.o _) aj.2 hbw;clear aj;have hw1:=W1.o.2.size
    go_wp2_with(at_builtin;refine wpList_append_own _ rfl _ _ 26 rfl w.heap.size 9 iS (.string ⟨#[]⟩) 1 16 Tryz.underlying26 HI.o.1 HI.o.2.1 HI.o.2.2.1 HI.o.2.2.2 rfl oo v3 ps.length (ps.map Value.string) rfl (uS.o.alloc _) ⟨w1.heap.size,0,none⟩ 1 1 [.string (esc s k).1] rfl rfl (cell_one_new _ _ _) (aT _) ?_ ?_ ?_ ?_)
    .unfold maxLen;omega
    .omega
    .simp;omega
    intro v4 w2 hown2 jk _;have W2:Hid (aB b s (esc s k).2 w w2):=(W1.o.alloc _).grown jk hbw (fun r hr=>(uS.o.lt r hr).1);have FW:=hid hown2;clear hown2 jk;go_wp2_with fail;go_roundg f;case measure=>omega
    case rel=>
     refine⟨v4,(esc s k).2,ps++[(esc s k).1],rfl,oo,by simp;omega,?_,HV.o,?_,W2.o⟩
     .have:=hsz.o;simp[dh,total,this];omega
     .simpa using FW.o
  .have hlt:k<s.size:=dY (uV hn);obtain⟨f,rfl⟩:∃f,gk=f+1:=⟨gk-1,oo⟩;have HV:Hid (iK s f (k+1) (aG (ps++[one s k]))=Sp.name s i):=by
    show _=_;rw[<-H1.o,dw];conv=>rhs;unfold iK
    rw[if_pos hn]
   have hsz:Hid ((one s k).size=1):=iQ hlt;go_wp2_with fail;refine cZ (ak s b (k) _ (k) _ (H2.o.1) ⟨oo,oo,oo⟩) fun nq=>?_;go_wp2_with fail;refine jA (nC _ _) ?_;go_wp2_with fail;refine pmb (Ap s b k _ (H2.o.1.drewN _) hlt) fun w1 aj=>?_;have W1:Hid (aB b s (k+1) w w1):=(H2.o.drewN _).trans aj;have uS:Hid (w1.ownsRow w.heap.size 9 1 v3 ps.length (ps.map Value.string)):=eF (bP HO.o _) aj.2 hbw;clear aj;have hw1:=W1.o.2.size;go_wp2_with(at_builtin;refine wpList_append_own _ rfl _ _ 26 rfl w.heap.size 9 iS (.string ⟨#[]⟩) 1 16 Tryz.underlying26 HI.o.1 HI.o.2.1 HI.o.2.2.1 HI.o.2.2.2 rfl oo v3 ps.length (ps.map Value.string) rfl (uS.o.alloc _) ⟨w1.heap.size,0,none⟩ 1 1 [.string (one s k)] rfl rfl (cell_one_new _ _ _) (aT _) ?_ ?_ ?_ ?_)
   .unfold maxLen;omega
   .omega
   .simp;omega
   intro v4 w2 hown2 jk _;have W2:Hid (aB b s (k+1) w w2):=(W1.o.alloc _).grown jk hbw (fun r hr=>(uS.o.lt r hr).1);have FW:=hid hown2;clear hown2 jk;go_wp2_with fail;go_roundg f;case measure=>omega
   case rel=>
    refine⟨v4,k+1,ps++[one s k],rfl,oo,by simp;omega,?_,HV.o,?_,W2.o⟩
    .have:=hsz.o;simp[dh,total,this];omega
    .simpa using FW.o
