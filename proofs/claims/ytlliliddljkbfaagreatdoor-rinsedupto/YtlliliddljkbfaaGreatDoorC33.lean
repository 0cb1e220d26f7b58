import Derived.Test.YtlliliddljkbfaaGreatDoorC3
import Derived.Test.YtlliliddljkbfaaGreatDoorC12
import Derived.Test.YtlliliddljkbfaaGreatDoorC24
import Derived.Test.YtlliliddljkbfaaGreatDoorC28
import Derived.Test.YtlliliddljkbfaaGreatDoorC32
import Derived.Deep.RegionHeld3
namespace Go.Proofs.YtlliliddljkbfaaGreatDoor.Sp
set_option maxHeartbeats 64000000
set_option maxRecDepth 100000
mutual
def okN:Nd->Prop
 |.mk t k=>cZ t/\jG k
def jG:List Nd->Prop
 |[]=>True
 |n::r=>okN n/\jG r
end
theorem mM(n:Nd):okN n↔cZ n.t/\jG n.kids:=by cases n;simp[okN]
theorem qp:∀(l:List Nd),jG l↔∀n∈l,okN n
 |[]=>by simp[jG]
 |m::r=>by simp[jG,qp r]
structure aev(k:Nat)(v:ByteArray)(p:Nat):Prop where
 kind:k=116\/k=35\/k=46\/k=91\/k=58
 val:v.size<=4000000
 place:p<=1001
mutual
def okS:Simple->Prop
 |.mk k _ _ v l p=>aev k v p/\okL l
def okA:List Simple->Prop
 |[]=>True
 |s::r=>okS s/\okA r
def okT:Nat×List Simple->Prop
 |(b,all)=>b<256/\okA all
def okC:List (Nat×List Simple)->Prop
 |[]=>True
 |s::r=>okT s/\okC r
def okL:List (List (Nat×List Simple))->Prop
 |[]=>True
 |c::r=>(c≠[]/\okC c)/\okL r
end
theorem rE{l:List Nd}(h:jG l):jG (aC l):=by
 induction l with
 |nil=>simp[aC,jG]
 |cons n r ih=>
  unfold aC;split
  .exact ih h.2
  .exact h
theorem Aq{l:List Nd}(h:jG l):jG (bare l):=by rw[qp];intro n hn;unfold bare kG at hn;rw[List.mem_reverse]at hn;have h1:jG (aC (aC l).reverse):=rE (by rw[qp];intro m hm;exact(qp _).1 (rE h) m (List.mem_reverse.1 hm));exact(qp _).1 h1 n hn
theorem FB:∀(l:List Nd) (out:List (List Nd)) (cur:List Nd),(∀p∈out,jG p)->jG cur->jG l->∀p∈kW out cur l,jG p
 |[],out,cur,h1,h2,_,p,hp=>by
  unfold kW at hp;rcases List.mem_append.1 hp with h|h
  .exact h1 p h
  .simp at h;subst h;exact h2
 |m::r,out,cur,h1,h2,h3,p,hp=>by
  unfold kW at hp;split at hp
  .refine FB r (out++[cur]) [] (fun q hq=>?_) (by simp[jG]) h3.2 p hp;rcases List.mem_append.1 hq with h|h
   .exact h1 q h
   .simp at h;subst h;exact h2
  .refine FB r out (cur++[m]) h1 ?_ h3.2 p hp;rw[qp];intro k hk;rcases List.mem_append.1 hk with h|h
   .exact(qp _).1 h2 k h
   .simp at h;subst h;exact h3.1
theorem RJ:∀(l:List UInt8) (v n:Nat),jR v l=some n->n<=999
 |[],v,n,h=>by
  unfold jR at h;split at h
  .cases h;assumption
  .cases h
 |c::r,v,n,h=>by
  unfold jR at h;split at h
  .exact RJ r _ n h
  .cases h
theorem PY{t:Tok}{p:Nat}(h:placeOf t=some p):p<=1001:=by
 unfold placeOf at h;split at h
 .split at h
  .cases h;omega
  split at h
  .cases h;omega
  .cases h
 .split at h
  .cases hn:jR 0 t.word.data.toList with
   |none=>rw[hn]at h;cases h
   |some n=>rw[hn]at h;simp at h;have:=RJ _ _ _ hn;omega
  .cases h
theorem W9{l r:List Nd}{c:Nat}(hn:jG l)(h:gQ l=some (c,r)):c<256/\jG r:=by
 unfold gQ at h;have hd:=rE hn;split at h
 .split at h
  .cases h
  .cases h;exact⟨by omega,by simp[jG]⟩
 .rename_i n r' hdr;rw[hdr]at hd;split at h
  .cases h;exact⟨by omega,rE hd.2⟩
  split at h
  .cases h;exact⟨by omega,rE hd.2⟩
  split at h
  .cases h;exact⟨by omega,rE hd.2⟩
  split at h
  .cases h;exact⟨by omega,hd⟩
  .cases h
section
variable {rec:List Nd->Option fC} (hrec : ∀ l ss,jG l->rec l=some ss->okL ss)
include hrec
end
end Go.Proofs.YtlliliddljkbfaaGreatDoor.Sp
namespace Go.Proofs.YtlliliddljkbfaaGreatDoor.Sp
set_option maxHeartbeats 64000000
set_option maxRecDepth 100000
def RN(h:ByteArray):Prop:=h=aA\/h=b1 61\/h=⟨#[126,61]⟩\/h=⟨#[94,61]⟩\/h=⟨#[36,61]⟩\/h=⟨#[42,61]⟩
def ZN(nm:ByteArray):Prop:=nm=zq\/nm=su\/nm=zu\/nm=sD\/nm=lg\/nm=xB\/nm=iR
def Ik(b:Nat):Prop:=b=32\/b=62\/b=43\/b=126
structure PrN(k:Nat)(nm how v:ByteArray)(p:Nat):Prop where
 kind:k=116\/(k=35/\nm≠aA)\/k=46\/(k=91/\RN how)\/(k=58/\ZN nm)
 val:v.size<=4000000
 place:p<=1001
 nmz:nm.size<=4000000
 hwz:how.size<=10
theorem lD(s:ByteArray):(small s).size=s.size:=by show(s.data.toList.map jF).toArray.size=s.data.size;rw[List.size_toArray,List.length_map,Array.length_toList]
mutual
def Na:Simple->Prop
 |.mk k nm how v l p=>PrN k nm how v p/\uF l
def vI:List Simple->Prop
 |[]=>True
 |s::r=>Na s/\vI r
def Nb:List (Nat×List Simple)->Prop
 |[]=>False
 |(b,all)::r=>b=0/\vI all/\Uf r
def Uf:List (Nat×List Simple)->Prop
 |[]=>True
 |(b,all)::r=>Ik b/\vI all/\Uf r
def uF:List (List (Nat×List Simple))->Prop
 |[]=>True
 |c::r=>Nb c/\uF r
end
theorem FC:∀(a b:List Simple),vI (a++b)↔vI a/\vI b
 |[],b=>by simp[vI]
 |s::r,b=>by simp[vI,FC r b,and_assoc]
theorem lJ{k:Nat}{nm h v:ByteArray}{p:Nat}(hs:PrN k nm h v p):Na (.mk k nm h v [] p):=by simp[Na,uF,hs]
theorem Jb{l:List Nd}{s:Simple}(hl:jG l)(h:dh l=some s):Na s:=by
 unfold dh at h;split at h
 .cases h
 .rename_i n r;simp only at h;split at h
  .cases h
  .split at h
   .cases h;exact lJ ⟨by simp[RN],Nat.zero_le _,by omega,((mM n).1 hl.1).1.word,Nat.zero_le _⟩
   .rename_i m r1 hb;split at h
    .cases h
    .have hr1:jG (m::r1):=by rw[<-hb];exact Aq hl.2
     split at h
     .cases h
     .rename_i q r2 hq;have hq2:jG (q::r2):=by
       rw[<-hq];split
       .exact hr1.2
       .exact hr1
      split at h
      .rename_i v hv;have hv2:jG [v]:=by rw[<-hv];exact Aq hq2.2
       split at h
       .cases h;refine lJ ⟨.inr (.inr (.inr (.inl ⟨rfl,?_⟩))),((mM v).1 hv2.1).1.word,by omega,((mM n).1 hl.1).1.word,?_⟩
        .split
         .rename_i hm;rcases hm with e|e|e|e<;>rw[e]<;>unfold RN<;>decide
         .unfold RN;decide
        .split
         .rename_i hm;rcases hm with e|e|e|e<;>rw[e]<;>decide
         .decide
       .cases h
      .cases h
theorem Xa{l r:List Nd}{c:Nat}(h:gQ l=some (c,r)):Ik c:=by
 unfold gQ at h;split at h
 .split at h
  .cases h
  .cases h;simp[Ik]
 .split at h
  .cases h;simp[Ik]
  split at h
  .cases h;simp[Ik]
  split at h
  .cases h;simp[Ik]
  split at h
  .cases h;simp[Ik]
  .cases h
theorem hash_ne{n:Nd}(h:okN n)(hk:n.t.kind=4):n.t.word≠aA:=by have:=((mM n).1 h).1.named (.inl hk);intro e;rw[e]at this;exact absurd this (by decide)
section
variable {rec:List Nd->Option fC} (hrec : ∀ l ss,jG l->rec l=some ss->uF ss)
include hrec
theorem PZ{n:Nd}{s:Simple}(hn:okN n)(h:aK rec n=some s):Na s:=by
 unfold aK at h;simp only at h;split at h
 .split at h
  .rename_i hw;cases h;exact lJ ⟨.inr (.inr (.inr (.inr ⟨rfl,by rcases hw with e|e|e|e<;>simp[ZN,e]⟩))),Nat.zero_le _,by omega,by rw[lD];exact((mM n).1 hn).1.word,Nat.zero_le _⟩
  .cases h
 split at h
 .cases h
 split at h
 .rename_i hw;cases hr:rec n.kids with
  |none=>rw[hr]at h;cases h
  |some ss=>rw[hr]at h;simp at h;subst h;have:=hrec _ _ ((mM n).1 hn).2 hr;simp only[Na];exact⟨⟨.inr (.inr (.inr (.inr ⟨rfl,by rcases hw with e|e<;>simp[ZN,e]⟩))),Nat.zero_le _,by omega,by rw[lD];exact((mM n).1 hn).1.word,Nat.zero_le _⟩,this⟩
 split at h
 .rename_i hw;split at h
  .rename_i v hv;cases hp:placeOf v.t with
   |none=>rw[hp]at h;cases h
   |some q=>rw[hp]at h;simp at h;subst h;exact lJ ⟨.inr (.inr (.inr (.inr ⟨rfl,by simp[ZN,hw]⟩))),Nat.zero_le _,PY hp,by rw[lD];exact((mM n).1 hn).1.word,Nat.zero_le _⟩
  .cases h
 .cases h
theorem Ug(n:Nat):∀(acc:List Simple) (l:List Nd) (all:List Simple) (r:List Nd),l.length<=n->vI acc->jG l->bD rec acc l=some (all,r)->vI all/\jG r:=by
 induction n with
 |zero=>intro acc l all r hl ha hn h;obtain rfl:l=[]:=List.eq_nil_of_length_eq_zero (by omega);simp[bD]at h;obtain⟨rfl,rfl⟩:=h;exact⟨ha,hn⟩
 |succ n ih=>
  intro acc l all r hl ha hn h;have one:∀s,Na s->vI (acc++[s]):=fun s hs=>by rw[FC];exact⟨ha,by simp[vI,hs]⟩
  match l,hl,hn,h with
  |[],_,hn,h=>simp[bD]at h;obtain⟨rfl,rfl⟩:=h;exact⟨ha,hn⟩
  |[m],_,hn,h=>
   have hw:=((mM m).1 hn.1);unfold bD at h;split at h
   .rename_i hk;cases h;exact⟨one _ (lJ ⟨.inr (.inl ⟨rfl,hash_ne hn.1 hk⟩),Nat.zero_le _,by omega,hw.1.word,Nat.zero_le _⟩),by simp[jG]⟩
   split at h
   .cases h
   split at h
   .split at h
    .cases h
    .rename_i s hs;cases h;exact⟨one _ (Jb (Aq hw.2) hs),by simp[jG]⟩
   split at h
   .cases h
   .cases h;exact⟨ha,hn⟩
  |m::q::r',hl,hn,h=>
   simp only[List.length_cons]at hl;have hw:=((mM m).1 hn.1);unfold bD at h;split at h
   .rename_i hk;exact ih _ _ _ _ (by simp;omega) (one _ (lJ ⟨.inr (.inl ⟨rfl,hash_ne hn.1 hk⟩),Nat.zero_le _,by omega,hw.1.word,Nat.zero_le _⟩)) hn.2 h
   split at h
   .split at h
    .exact ih _ _ _ _ (by omega) (one _ (lJ ⟨by simp,Nat.zero_le _,by omega,((mM q).1 hn.2.1).1.word,Nat.zero_le _⟩)) hn.2.2 h
    .cases h
   split at h
   .split at h
    .cases h
    .rename_i s hs;exact ih _ _ _ _ (by simp;omega) (one _ (Jb (Aq hw.2) hs)) hn.2 h
   split at h
   .split at h
    .cases h
    .rename_i s hs;exact ih _ _ _ _ (by omega) (one _ (PZ hrec hn.2.1 hs)) hn.2.2 h
   .cases h;exact⟨ha,hn⟩
theorem J9{l:List Nd}{all:List Simple}{r:List Nd}(hn:jG l)(h:aJ rec l=some (all,r)):vI all/\jG r:=by
 unfold aJ at h;have ht:vI (oW l).1/\jG (oW l).2:=by
  unfold oW;split
  .exact⟨by simp[vI],by simp[jG]⟩
  .split
   .exact⟨by simp only[vI,and_true];exact lJ ⟨by simp,Nat.zero_le _,by omega,by rw[lD];exact((mM _).1 hn.1).1.word,Nat.zero_le _⟩,hn.2⟩
   split
   .exact⟨by simp only[vI,and_true];exact lJ ⟨by simp,Nat.zero_le _,by omega,Nat.zero_le _,Nat.zero_le _⟩,hn.2⟩
   .exact⟨by simp[vI],hn⟩
 exact Ug hrec _ _ _ _ _ (Nat.le_refl _) ht.1 ht.2 h
theorem CZ:∀(f b:Nat) (l:List Nd) (ss:List Step),jG l->dR rec f b l=some ss->∃all r,ss=(b,all)::r/\vI all/\Uf r
 |0,_,_,_,_,h=>by simp[dR]at h
 |f+1,b,l,ss,hn,h=>by
  unfold dR at h;split at h
  .cases h
  .rename_i all r hc;have h1:=J9 hrec hn hc;split at h
   .cases h
   split at h
   .cases h;exact⟨_,_,rfl,h1.1,by simp[Uf]⟩
   .split at h
    .cases h
    .rename_i c r' hcb;have h2:=W9 h1.2 hcb;have hc2:=Xa hcb;cases hx:dR rec f c r' with
     |none=>rw[hx]at h;cases h
     |some x=>rw[hx]at h;simp at h;subst h;obtain⟨all2,r2,rfl,h4,h5⟩:=CZ f c r' x h2.2 hx;exact⟨_,_,rfl,h1.1,by simp only[Uf];exact⟨hc2,h4,h5⟩⟩
theorem Nc:∀(ps:List (List Nd)) (ss:fC),(∀p∈ps,jG p)->jT rec ps=some ss->uF ss
 |[],ss,_,h=>by simp[jT]at h;subst h;simp[uF]
 |p::r,ss,hp,h=>by
  unfold jT at h;split at h
  .cases h
  .rename_i s hs;cases hx:jT rec r with
   |none=>rw[hx]at h;cases h
   |some x=>rw[hx]at h;simp at h;subst h;obtain⟨all,r3,rfl,h4,h5⟩:=CZ hrec _ _ _ _ (Aq (hp p (by simp))) hs;simp only[uF,Nb];exact⟨⟨trivial,h4,h5⟩,Nc r x (fun q hq=>hp q (by simp[hq])) hx⟩
theorem Nh{l:List Nd}{ss:fC}(hn:jG l)(h:tX rec l=some ss):uF ss:=by
 unfold tX at h;split at h
 .cases h
 .exact Nc hrec _ _ (FB l [] [] (by simp) (by simp[jG]) hn) h
end
theorem DX:∀(f:Nat) (l:List Nd) (ss:fC),jG l->ny f l=some ss->uF ss
 |0,l,ss,hn,h=>Nh (rec:=fun _=>none) (fun _ _ _ h=>by cases h) hn h
 |f+1,l,ss,hn,h=>Nh (rec:=ny f) (fun l ss h1 h2=>DX f l ss h1 h2) hn h
theorem Qb:∀(ss:fC) (i:Nat) (_:uF ss) (h:i<ss.length),Nb ss[i]
 |c::r,0,h,_=>by simp only[uF]at h;simpa using h.1
 |c::r,i+1,h,hi=>by simp only[uF]at h;simpa using Qb r i h.2 (by simpa using hi)
theorem Xb:∀(ss:List Step) (i:Nat) (_:Uf ss) (h:i<ss.length),Ik ss[i].1/\vI ss[i].2
 |(b,all)::r,0,h,_=>by simp only[Uf]at h;simpa using⟨h.1,h.2.1⟩
 |(b,all)::r,i+1,h,hi=>by simp only[Uf]at h;simpa using Xb r i h.2.2 (by simpa using hi)
theorem Xc:∀(ss:List Simple) (i:Nat) (_:vI ss) (h:i<ss.length),Na ss[i]
 |c::r,0,h,_=>by simp only[vI]at h;simpa using h.1
 |c::r,i+1,h,hi=>by simp only[vI]at h;simpa using Xc r i h.2 (by simpa using hi)
end Go.Proofs.YtlliliddljkbfaaGreatDoor.Sp
namespace Go.Proofs.YtlliliddljkbfaaGreatDoor
set_option maxHeartbeats 64000000
set_option maxRecDepth 100000
open Go.Proofs.Tryz (prog)
open Go.RowKit Sp
mutual
def zS:Simple->Nat
 |.mk _ nm how v l _=>4*nm.size+4*v.size+how.size+120+zL l
def zA:List Simple->Nat
 |[]=>0
 |s::r=>zS s+zA r
def zT:Nat×List Simple->Nat
 |(_,all)=>3+zA all
def zC:List (Nat×List Simple)->Nat
 |[]=>0
 |t::r=>zT t+zC r
def zL:List (List (Nat×List Simple))->Nat
 |[]=>0
 |c::r=>1+zC c+zL r
end
theorem Qc(nm how v:ByteArray):(zF nm how v).size<=4*nm.size+4*v.size+how.size+4:=by
 have h1:=bZ nm;have h2:=sU v;have e:∀(c:UInt8),(b1 c).size=1:=fun _=>rfl;unfold zF;split
 .rw[ByteArray.size_append,ByteArray.size_append,e,e];omega
 .rw[ByteArray.size_append,ByteArray.size_append,ByteArray.size_append,ByteArray.size_append,e,e];omega
theorem Qd(b:Nat):(kX b).size<=3:=by
 unfold kX;split
 .show 1<=3;omega
 .split
  .show 3<=3;omega
  .show 0<=3;omega
def ig:Prop:=∀n,n<=1000->(Ej n).size<=100
mutual
theorem Uh(hd:ig):∀(s:Simple),Na s->(sK s).size<=zS s
 |.mk k nm how v l p,hq=>by
  have h1:=bZ nm;have h2:=Qc nm how v;have e:∀(c:UInt8),(b1 c).size=1:=fun _=>rfl;simp only[Na]at hq;have h3:=yR hd l hq.2;have hp:=hq.1.place;unfold sK zS;by_cases k1:k=116
  .rw[if_pos k1];split
   .rw[e];omega
   .omega
  rw[if_neg k1];by_cases k2:k=35
  .rw[if_pos k2,ByteArray.size_append,e];omega
  rw[if_neg k2];by_cases k3:k=46
  .rw[if_pos k3,ByteArray.size_append,e];omega
  rw[if_neg k3];by_cases k4:k=91
  .rw[if_pos k4];omega
  rw[if_neg k4];by_cases k5:nm=lg\/nm=xB
  .rw[if_pos k5];simp only[ByteArray.size_append,e];omega
  rw[if_neg k5];by_cases k6:nm=iR
  .rw[if_pos k6];have h4:(if p=0 then qC else if p=1 then kH else Ej (p-2)).size<=100:=by
    split
    .show 3<=100;omega
    .split
     .show 4<=100;omega
     .exact hd _ oo
   simp only[ByteArray.size_append,e];omega
  rw[if_neg k6,ByteArray.size_append,e];omega
theorem Jc(hd:ig):∀(l:List Simple),vI l->(lq l).size<=zA l
 |[],_=>by unfold lq;show 0<=_;omega
 |s::r,hq=>by simp only[vI]at hq;unfold lq zA;have:=Uh hd s hq.1;have:=Jc hd r hq.2;rw[ByteArray.size_append];omega
theorem Jd(hd:ig):∀(t:Nat×List Simple),vI t.2->(YU t).size<=zT t
 |(b,all),hq=>by unfold YU zT;have:=Qd b;have:=Jc hd all hq;rw[ByteArray.size_append];omega
theorem Je(hd:ig):∀(c:List (Nat×List Simple)),Uf c->(dJ c).size<=zC c
 |[],_=>by unfold dJ;show 0<=_;omega
 |(b,all)::r,hq=>by simp only[Uf]at hq;unfold dJ zC;have:=Jd hd (b,all) hq.2.1;have:=Je hd r hq.2.2;rw[ByteArray.size_append];omega
theorem pR(hd:ig):∀(c:List (Nat×List Simple)),Nb c->(dJ c).size<=zC c
 |[],hq=>by simp only[Nb]at hq
 |(b,all)::r,hq=>by simp only[Nb]at hq;unfold dJ zC;have:=Jd hd (b,all) hq.2.1;have:=Je hd r hq.2.2;rw[ByteArray.size_append];omega
theorem yR(hd:ig):∀(l:List (List (Nat×List Simple))),uF l->(gU aA l).size<=zL l
 |[],_=>by unfold gU;show 0<=_;omega
 |c::r,hq=>by simp only[uF]at hq;unfold gU zL;have:=pR hd c hq.1;have:=FD hd r hq.2;have e:aA.size=0:=rfl;rw[ByteArray.size_append,ByteArray.size_append,e];omega
theorem FD(hd:ig):∀(l:List (List (Nat×List Simple))),uF l->(oZ aA l).size<=zL l
 |[],_=>by unfold oZ;show 0<=_;omega
 |c::r,hq=>by simp only[uF]at hq;unfold oZ zL;have:=pR hd c hq.1;have:=FD hd r hq.2;have e:aA.size=0:=rfl;have e2:(b1 44).size=1:=rfl;rw[ByteArray.size_append,ByteArray.size_append,ByteArray.size_append,e,e2];omega
end
section
theorem SB.new(w:World)(a b c d e f:Value):SB (w.alloc (.cells #[a,b,c,d,e,f] 194)) w.heap.size a b c d e f:=heap_alloc_new w _
section
variable (nm how v:ByteArray) (la:Option Addr) (ll lc p:Nat) (w:World)
theorem ZO(h0:(nm.toList==[])=true):Calls prog 113 #[.agg #[.int .u8 116,.string nm,.string how,.string v,.slice la ll lc,.int .i64 (p:Int)]] w fun e w'=>e=.returned (.string (b1 42))/\Below w.heap.size w w':=by have B2:Hid (Below w.heap.size w (w.alloc (.cells #[.int .u8 116,.string nm,.string how,.string v,.slice la ll lc,.int .i64 (p:Int)] 194))):=(Below.refl _ _).alloc nl _;have hs2:=B2.o.size;go_in;go_wp2_with fail;go_ret;exact⟨rfl,B2.o⟩
theorem abO(hn:nm.size<=4000000)(h0:(nm.toList==[])=false):Calls prog 113 #[.agg #[.int .u8 116,.string nm,.string how,.string v,.slice la ll lc,.int .i64 (p:Int)]] w fun e w'=>e=.returned (.string (bC nm))/\Below w.heap.size w w':=by
 have B2:Hid (Below w.heap.size w (w.alloc (.cells #[.int .u8 116,.string nm,.string how,.string v,.slice la ll lc,.int .i64 (p:Int)] 194))):=(Below.refl _ _).alloc nl _;have hs2:=B2.o.size;obtain⟨o,Ho⟩:∃o,Hid (bC nm=o):=⟨_,hid rfl⟩;have hsz:o.size<=4*nm.size:=by rw[<-Ho.o];exact bZ nm
 rw[Ho.o];go_in;go_wp2_with fail;refine(jc nm _ hn).mono ?_;rw[Ho.o];rintro e w3 ⟨rfl,hb3⟩;have B3:Hid (Below w.heap.size w w3):=B2.o.trans (hb3.mono hs2);clear hb3;go_wp2_with fail;go_ret;exact⟨rfl,B3.o⟩
theorem adz(hn:nm.size<=4000000):Calls prog 113 #[.agg #[.int .u8 35,.string nm,.string how,.string v,.slice la ll lc,.int .i64 (p:Int)]] w fun e w'=>e=.returned (.string (b1 35++bC nm))/\Below w.heap.size w w':=by
 have B2:Hid (Below w.heap.size w (w.alloc (.cells #[.int .u8 35,.string nm,.string how,.string v,.slice la ll lc,.int .i64 (p:Int)] 194))):=(Below.refl _ _).alloc nl _;have hs2:=B2.o.size;obtain⟨o,Ho⟩:∃o,Hid (bC nm=o):=⟨_,hid rfl⟩;have hsz:o.size<=4*nm.size:=by rw[<-Ho.o];exact bZ nm
 rw[Ho.o];go_in;go_wp2_with fail;refine(jc nm _ hn).mono ?_;rw[Ho.o];rintro e w3 ⟨rfl,hb3⟩;have B3:Hid (Below w.heap.size w w3):=B2.o.trans (hb3.mono hs2);clear hb3;go_wp2_with fail;go_ret;exact⟨rfl,B3.o⟩
theorem Xd(hn:nm.size<=4000000):Calls prog 113 #[.agg #[.int .u8 46,.string nm,.string how,.string v,.slice la ll lc,.int .i64 (p:Int)]] w fun e w'=>e=.returned (.string (b1 46++bC nm))/\Below w.heap.size w w':=by
 have B2:Hid (Below w.heap.size w (w.alloc (.cells #[.int .u8 46,.string nm,.string how,.string v,.slice la ll lc,.int .i64 (p:Int)] 194))):=(Below.refl _ _).alloc nl _;have hs2:=B2.o.size;obtain⟨o,Ho⟩:∃o,Hid (bC nm=o):=⟨_,hid rfl⟩;have hsz:o.size<=4*nm.size:=by rw[<-Ho.o];exact bZ nm
 rw[Ho.o];go_in;go_wp2_with fail;refine(jc nm _ hn).mono ?_;rw[Ho.o];rintro e w3 ⟨rfl,hb3⟩;have B3:Hid (Below w.heap.size w w3):=B2.o.trans (hb3.mono hs2);clear hb3;go_wp2_with fail;go_ret;exact⟨rfl,B3.o⟩
theorem abP(hn:nm.size<=4000000)(h0:(how.toList==[])=true):Calls prog 113 #[.agg #[.int .u8 91,.string nm,.string how,.string v,.slice la ll lc,.int .i64 (p:Int)]] w fun e w'=>e=.returned (.string (b1 91++(bC nm++b1 93)))/\Below w.heap.size w w':=by
 have B2:Hid (Below w.heap.size w (w.alloc (.cells #[.int .u8 91,.string nm,.string how,.string v,.slice la ll lc,.int .i64 (p:Int)] 194))):=(Below.refl _ _).alloc nl _;have hs2:=B2.o.size;obtain⟨o,Ho⟩:∃o,Hid (bC nm=o):=⟨_,hid rfl⟩;have hsz:o.size<=4*nm.size:=by rw[<-Ho.o];exact bZ nm
 rw[Ho.o];go_in;go_wp2_with fail;refine(jc nm _ hn).mono ?_;rw[Ho.o];rintro e w3 ⟨rfl,hb3⟩;have B3:Hid (Below w.heap.size w w3):=B2.o.trans (hb3.mono hs2);clear hb3;go_wp2_with fail;go_ret;exact⟨(iW (by rw[ByteArray.append_assoc];rfl)),B3.o⟩
theorem Xe(hn:nm.size<=4000000)(a1:(nm.toList==[110,111,116])=false)(a2:(nm.toList==[105,115])=false)(a3:(nm.toList==[110,116,104,45,99,104,105,108,100])=false):Calls prog 113 #[.agg #[.int .u8 58,.string nm,.string how,.string v,.slice la ll lc,.int .i64 (p:Int)]] w fun e w'=>e=.returned (.string (b1 58++nm))/\Below w.heap.size w w':=by have B2:Hid (Below w.heap.size w (w.alloc (.cells #[.int .u8 58,.string nm,.string how,.string v,.slice la ll lc,.int .i64 (p:Int)] 194))):=(Below.refl _ _).alloc nl _;have hs2:=B2.o.size;go_in;go_wp2_with fail;go_ret;exact⟨rfl,B2.o⟩
theorem abQ(a1:(nm.toList==[110,111,116])=false)(a2:(nm.toList==[105,115])=false)(a3:(nm.toList==[110,116,104,45,99,104,105,108,100])=true):Calls prog 113 #[.agg #[.int .u8 58,.string nm,.string how,.string v,.slice la ll lc,.int .i64 0]] w fun e w'=>e=.returned (.string (b1 58++(iR++(b1 40++(qC++b1 41)))))/\Below w.heap.size w w':=by
 have B2:Hid (Below w.heap.size w (w.alloc (.cells #[.int .u8 58,.string nm,.string how,.string v,.slice la ll lc,.int .i64 0] 194))):=(Below.refl _ _).alloc nl _;have hs2:=B2.o.size;have HV:Hid ((⟨#[58,110,116,104,45,99,104,105,108,100,40]⟩++⟨#[111,100,100]⟩:ByteArray)++⟨#[41]⟩=b1 58++(iR++(b1 40++(qC++b1 41)))):=by show _=_;decide
 go_in;go_wp2_with fail;go_ret;exact⟨iW HV.o,B2.o.alloc hs2 _⟩
theorem ZP(a1:(nm.toList==[110,111,116])=false)(a2:(nm.toList==[105,115])=false)(a3:(nm.toList==[110,116,104,45,99,104,105,108,100])=true):Calls prog 113 #[.agg #[.int .u8 58,.string nm,.string how,.string v,.slice la ll lc,.int .i64 1]] w fun e w'=>e=.returned (.string (b1 58++(iR++(b1 40++(kH++b1 41)))))/\Below w.heap.size w w':=by
 have B2:Hid (Below w.heap.size w (w.alloc (.cells #[.int .u8 58,.string nm,.string how,.string v,.slice la ll lc,.int .i64 1] 194))):=(Below.refl _ _).alloc nl _;have hs2:=B2.o.size;have HV:Hid ((⟨#[58,110,116,104,45,99,104,105,108,100,40]⟩++⟨#[101,118,101,110]⟩:ByteArray)++⟨#[41]⟩=b1 58++(iR++(b1 40++(kH++b1 41)))):=by show _=_;decide
 go_in;go_wp2_with fail;go_ret;exact⟨iW HV.o,B2.o.alloc hs2 _⟩
theorem abR(a1:(nm.toList==[110,111,116])=false)(a2:(nm.toList==[105,115])=false)(a3:(nm.toList==[110,116,104,45,99,104,105,108,100])=true)(n:Nat)(hp:p=n+2)(hn:n<=1000)(hI:eX w)(hd:(Ej n).size<=100):Calls prog 113 #[.agg #[.int .u8 58,.string nm,.string how,.string v,.slice la ll lc,.int .i64 (p:Int)]] w fun e w'=>e=.returned (.string (b1 58++(iR++(b1 40++(Ej n++b1 41)))))/\Below w.heap.size w w':=by
 have B2:Hid (Below w.heap.size w (w.alloc (.cells #[.int .u8 58,.string nm,.string how,.string v,.slice la ll lc,.int .i64 (p:Int)] 194))):=(Below.refl _ _).alloc nl _;have hs2:=B2.o.size;obtain⟨d,Hd⟩:∃d,Hid (Ej n=d):=⟨_,hid rfl⟩;have HI0:=hI n _ hn B2.o;rw[Hd.o]at hd HI0;rw[Hd.o];have HV:Hid ((⟨#[58,110,116,104,45,99,104,105,108,100,40]⟩++d:ByteArray)++⟨#[41]⟩=b1 58++(iR++(b1 40++(d++b1 41)))):=by show _=_;have:=J7 d;rw[<-this];simp[aB,ByteArray.append_assoc]
 have hp1:(2:Int)<=(p:Int):=oo;have hp2:(p:Int)-2=(n:Int):=oo;have hp3:IntKind.i64.wrap ((p:Int)-2)=(n:Int):=by rw[IntKind.wrap_i64];omega
 have HI:Hid (Calls prog 184 #[.int .i64 (n:Int)] (w.alloc (.cells #[.int .u8 58,.string nm,.string how,.string v,.slice la ll lc,.int .i64 (p:Int)] 194)) fun e w''=>e=.returned (.string d)/\Below (w.alloc (.cells #[.int .u8 58,.string nm,.string how,.string v,.slice la ll lc,.int .i64 (p:Int)] 194)).heap.size (w.alloc (.cells #[.int .u8 58,.string nm,.string how,.string v,.slice la ll lc,.int .i64 (p:Int)] 194)) w''):=HI0;clear HI0 hI hp;go_in;go_wp2_with fail;refine HI.o.mono ?_;rintro e w3 ⟨rfl,hb3⟩;have B3:Hid (Below w.heap.size w w3):=B2.o.trans (hb3.mono hs2);clear hb3;go_wp2_with fail;go_ret;exact⟨iW HV.o,B3.o⟩
theorem ZQ(hn:nm.size<=4000000)(hh:how.size<=10)(hv:v.size<=4000000)(h0:(how.toList==[])=false):Calls prog 113 #[.agg #[.int .u8 91,.string nm,.string how,.string v,.slice la ll lc,.int .i64 (p:Int)]] w fun e w'=>e=.returned (.string (b1 91++(bC nm++(how++(oK v++b1 93)))))/\Below w.heap.size w w':=by
 have B2:Hid (Below w.heap.size w (w.alloc (.cells #[.int .u8 91,.string nm,.string how,.string v,.slice la ll lc,.int .i64 (p:Int)] 194)).drew):=nN _ _;have A2:Hid (SB (w.alloc (.cells #[.int .u8 91,.string nm,.string how,.string v,.slice la ll lc,.int .i64 (p:Int)] 194)).drew w.heap.size (.int .u8 91) (.string nm) (.string how) (.string v) (.slice la ll lc) (.int .i64 (p:Int))):=SB.new _ _ _ _ _ _ _;obtain⟨o,Ho⟩:∃o,Hid (bC nm=o):=⟨_,hid rfl⟩;obtain⟨t,Ht⟩:∃t,Hid (oK v=t):=⟨_,hid rfl⟩;have hso:o.size<=4*nm.size:=by rw[<-Ho.o];exact bZ nm
 have hst:t.size<=4*v.size+2:=by rw[<-Ht.o];exact sU v
 have HV:Hid ((((⟨#[91]⟩++o:ByteArray)++how)++t)++⟨#[93]⟩=b1 91++(bC nm++(how++(oK v++b1 93)))):=by show _=_;rw[Ho.o,Ht.o,ByteArray.append_assoc,ByteArray.append_assoc,ByteArray.append_assoc];rfl
 go_in;go_wp2_with fail;refine wp_region_any (by kernel_rfl) ?_;change wpAny _ _ _ _ _ _ _ (World.drew _);generalize(w.alloc (.cells #[.int .u8 91,.string nm,.string how,.string v,.slice la ll lc,.int .i64 (p:Int)] 194)).drew=w2 at *;have hs2:=B2.o.size;refine wpAny_of_held (S:=fun wx=>SB wx w.heap.size (.int .u8 91) (.string nm) (.string how) (.string v) (.slice la ll lc) (.int .i64 (p:Int))) _ _ _ _ ?_;refine bY 0 rfl A2.o (by intro w hSw;obtain⟨a0,a1,a2,a3,a4,a5⟩:=SB.cs hSw;exact gs) ?_;refine bY 1 rfl A2.o (by intro w hSw;obtain⟨a0,a1,a2,a3,a4,a5⟩:=SB.cs hSw;exact gs) ?_;refine bY 4 rfl A2.o (by intro w hSw;obtain⟨a0,a1,a2,a3,a4,a5⟩:=SB.cs hSw;exact gs) ?_
 refine bY 5 rfl A2.o (by intro w hSw;obtain⟨a0,a1,a2,a3,a4,a5⟩:=SB.cs hSw;exact gs) ?_;refine bY 7 rfl A2.o (by intro w hSw;obtain⟨a0,a1,a2,a3,a4,a5⟩:=SB.cs hSw;exact gs) ?_;refine bY 8 rfl A2.o (by intro w hSw;obtain⟨a0,a1,a2,a3,a4,a5⟩:=SB.cs hSw;exact gs) ?_;refine jh 2 fun K hK=>?_;go_simp;refine(jc nm _ hn).mono ?_;rw[Ho.o];rintro e w3 ⟨rfl,hb3⟩;have B3:Hid (Below w.heap.size w w3):=B2.o.trans (hb3.mono hs2);have A3:Hid (SB w3 w.heap.size (.int .u8 91) (.string nm) (.string how) (.string v) (.slice la ll lc) (.int .i64 (p:Int))):=A2.o.below hb3;have hs3:=B3.o.size;clear hb3;refine hK.o _ _ A3.o (fun _=>?_);clear hK K;refine bY 3 rfl A3.o (by intro w hSw;go_simp;rw[if_neg oa]) ?_
 refine bY 6 rfl A3.o (by intro w hSw;go_simp;rw[if_neg oa]) ?_;refine jh 9 fun K hK=>?_;go_simp;refine(I5 v _ hv).mono ?_;rw[Ht.o];rintro e w4 ⟨rfl,hb4⟩;have B4:Hid (Below w.heap.size w w4):=B3.o.trans (hb4.mono hs3);have A4:Hid (SB w4 w.heap.size (.int .u8 91) (.string nm) (.string how) (.string v) (.slice la ll lc) (.int .i64 (p:Int))):=A3.o.below hb4;clear hb4;refine hK.o _ _ A4.o (fun _=>?_);clear hK K;refine bY 10 rfl A4.o (by intro w hSw;go_simp;rw[if_neg oa]) ?_;refine bY 11 rfl A4.o (by intro w hSw;go_simp;rw[if_neg oa]) ?_;refine jh 12 fun K hK=>?_;go_simp;refine hK.o _ _ (A4.o) (fun _=>?_);clear hK K;refine wpAnyH_done (by kernel_rfl) ?_ _;go_wp2_with fail;go_ret
 exact⟨iW HV.o,B4.o⟩
theorem ZR(o:ByteArray)(hn:nm.size<=4000000)(ho:o.size<=549755813888)(hq:(nm.toList==[110,111,116])=true\/((nm.toList==[110,111,116])=false/\(nm.toList==[105,115])=true))
  (hL:∀w',Below w.heap.size w w'->Calls prog 65 #[.slice la ll lc,.string ⟨#[]⟩] w' fun e w''=>e=.returned (.string o)/\Below w'.heap.size w' w''):Calls prog 113 #[.agg #[.int .u8 58,.string nm,.string how,.string v,.slice la ll lc,.int .i64 (p:Int)]] w fun e w'=>e=.returned (.string (b1 58++(nm++(b1 40++(o++b1 41)))))/\Below w.heap.size w w':=by
 have B2:Hid (Below w.heap.size w (w.alloc (.cells #[.int .u8 58,.string nm,.string how,.string v,.slice la ll lc,.int .i64 (p:Int)] 194)).drew):=nN _ _;have A2:Hid (SB (w.alloc (.cells #[.int .u8 58,.string nm,.string how,.string v,.slice la ll lc,.int .i64 (p:Int)] 194)).drew w.heap.size (.int .u8 58) (.string nm) (.string how) (.string v) (.slice la ll lc) (.int .i64 (p:Int))):=SB.new _ _ _ _ _ _ _;have HL:Hid (∀w',Below w.heap.size w w'->Calls prog 65 #[.slice la ll lc,.string ⟨#[]⟩] w' fun e w''=>e=.returned (.string o)/\Below w'.heap.size w' w''):=hL;clear hL;have HV:Hid ((((⟨#[58]⟩++nm:ByteArray)++⟨#[40]⟩)++o)++⟨#[41]⟩=b1 58++(nm++(b1 40++(o++b1 41)))):=by show _=_;rw[ByteArray.append_assoc,ByteArray.append_assoc,ByteArray.append_assoc];rfl
 rcases hq with h1|⟨h1,h2⟩;all_goals
  go_in;go_wp2_with fail;refine wp_region_any (by kernel_rfl) ?_;change wpAny _ _ _ _ _ _ _ (World.drew _);generalize(w.alloc (.cells #[.int .u8 58,.string nm,.string how,.string v,.slice la ll lc,.int .i64 (p:Int)] 194)).drew=w2 at *;have hs2:=B2.o.size;refine wpAny_of_held (S:=fun wx=>SB wx w.heap.size (.int .u8 58) (.string nm) (.string how) (.string v) (.slice la ll lc) (.int .i64 (p:Int))) _ _ _ _ ?_;refine bY 0 rfl A2.o (by intro w hSw;obtain⟨a0,a1,a2,a3,a4,a5⟩:=SB.cs hSw;exact gs) ?_;refine bY 1 rfl A2.o (by intro w hSw;obtain⟨a0,a1,a2,a3,a4,a5⟩:=SB.cs hSw;exact gs) ?_;refine bY 2 rfl A2.o (by intro w hSw;go_simp;rw[if_neg oa]) ?_
  refine bY 3 rfl A2.o (by intro w hSw;go_simp;rw[if_neg oa]) ?_;refine bY 4 rfl A2.o (by intro w hSw;obtain⟨a0,a1,a2,a3,a4,a5⟩:=SB.cs hSw;exact gs) ?_;refine bY 5 rfl A2.o (by intro w hSw;obtain⟨a0,a1,a2,a3,a4,a5⟩:=SB.cs hSw;exact gs) ?_;refine jh 6 fun K hK=>?_;go_simp;refine pmb (HL.o w2 B2.o) fun w3 hb3=>?_;have B3:Hid (Below w.heap.size w w3):=B2.o.trans (hb3.mono hs2);have A3:Hid (SB w3 w.heap.size (.int .u8 58) (.string nm) (.string how) (.string v) (.slice la ll lc) (.int .i64 (p:Int))):=A2.o.below hb3;clear hb3;refine hK.o _ _ A3.o (fun _=>?_);clear hK K;refine bY 7 rfl A3.o (by intro w hSw;go_simp;rw[if_neg oa]) ?_
  refine bY 8 rfl A3.o (by intro w hSw;go_simp;rw[if_neg oa]) ?_;refine jh 9 fun K hK=>?_;go_simp;refine hK.o _ _ (A3.o) (fun _=>?_);clear hK K;refine wpAnyH_done (by kernel_rfl) ?_ _;go_wp2_with fail;go_ret;exact⟨iW HV.o,B3.o⟩
end
theorem BN{a:ByteArray}{l:List UInt8}(h:¬a=⟨l.toArray⟩):(a.toList==l)=false:=by rw[aH];exact decide_eq_false h
theorem FH{a:ByteArray}{l:List UInt8}(h:a=⟨l.toArray⟩):(a.toList==l)=true:=by rw[aH];exact decide_eq_true h
theorem Ar(k:Nat)(nm how v:ByteArray)(l:fC)(p:Nat)(la:Option Addr)(ll lc:Nat)(w:World)(hq:PrN k nm how v p)(hI:eX w)(hd:ig)(hz:(gU aA l).size<=549755813888)
  (hL:∀w',Below w.heap.size w w'->Calls prog 65 #[.slice la ll lc,.string ⟨#[]⟩] w' fun e w''=>e=.returned (.string (gU aA l))/\Below w'.heap.size w' w''):
  Calls prog 113 #[dZ k nm how v (.slice la ll lc) p] w fun e w'=>e=.returned (.string (sK (.mk k nm how v l p)))/\Below w.heap.size w w':=by
 have hn:=hq.nmz;unfold dZ;unfold sK;by_cases k1:k=116
 .subst k1;rw[if_pos rfl];by_cases e:nm=aA
  .rw[if_pos e];exact ZO nm how v la ll lc p w (FH e)
  .rw[if_neg e];exact abO nm how v la ll lc p w hn (BN e)
 rw[if_neg k1];by_cases k2:k=35
 .subst k2;rw[if_pos rfl];exact adz nm how v la ll lc p w hn
 rw[if_neg k2];by_cases k3:k=46
 .subst k3;rw[if_pos rfl];exact Xd nm how v la ll lc p w hn
 rw[if_neg k3];by_cases k4:k=91
 .subst k4;rw[if_pos rfl];unfold zF;by_cases e:how=aA
  .rw[if_pos e];exact abP nm how v la ll lc p w hn (FH e)
  .rw[if_neg e];exact ZQ nm how v la ll lc p w hn hq.hwz hq.val (BN e)
 rw[if_neg k4];have k58:k=58:=by
  rcases hq.kind with h|h|h|h|h
  .exact absurd h k1
  .exact absurd h.1 k2
  .exact absurd h k3
  .exact absurd h.1 k4
  .exact h.1
 subst k58;by_cases k5:nm=lg\/nm=xB
 .rw[if_pos k5];refine ZR nm how v la ll lc p w _ hn hz ?_ hL;by_cases e:nm=lg
  .exact .inl (FH e)
  .exact .inr ⟨BN e,FH (k5.resolve_left e)⟩
 rw[if_neg k5];have a1:(nm.toList==[110,111,116])=false:=BN fun e=>k5 (.inl e);have a2:(nm.toList==[105,115])=false:=BN fun e=>k5 (.inr e);by_cases k7:nm=iR
 .rw[if_pos k7];have a3:(nm.toList==[110,116,104,45,99,104,105,108,100])=true:=FH k7;rw[k7];rw[k7]at a1 a2 a3;by_cases p0:p=0
  .subst p0;rw[if_pos rfl];exact abQ iR how v la ll lc w a1 a2 a3
  rw[if_neg p0];by_cases p1:p=1
  .subst p1;rw[if_pos rfl];exact ZP iR how v la ll lc w a1 a2 a3
  rw[if_neg p1];have hp:=hq.place;exact abR iR how v la ll lc p w a1 a2 a3 (p-2) oo oo hI (hd _ oo)
 rw[if_neg k7];exact Xe nm how v la ll lc p w hn a1 a2 (BN k7)
end
end Go.Proofs.YtlliliddljkbfaaGreatDoor
