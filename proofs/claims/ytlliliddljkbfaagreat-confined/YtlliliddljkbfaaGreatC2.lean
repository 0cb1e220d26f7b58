import Derived.Test.YtlliliddljkbfaaGreatC1
import Derived.Deep.RegionLaw
import Derived.Deep.DeepCutAuto
import Derived.Deep.Light
import Derived.Deep.AppendSrc
import Derived.Lib.IndexBytes
set_option maxHeartbeats 64000000
set_option maxRecDepth 100000
namespace Go.Proofs.YtlliliddljkbfaaGreat
open Go.Proofs.Tryz (prog)
open Go.RowKit Sp
theorem jf(t:Tok)(kv:Av)(x:BY)(w:WD):
  Calls prog 195 #[fB t kv,.string x] w fun e w'=>e=.returned (.bool (au t x))/\Below w.heap.size w w':=by
 unfold fB;cases h:(t.kind==15)
 .have HV:Hid (au t x=false):=by show _=_;simp at h;simp[au,h]
  go_in;go_wp2_with fail;go_ret;exact⟨aC HV.o.symm,Ax.alloc nl _⟩
 .have HV:Hid (au t x=(t.word.toList==x.toList)):=by show _=_;rw[bytes_beq];simp at h;simp[au,h]
  go_in;go_wp2_with fail;go_ret;exact⟨aC HV.o.symm,Ax.alloc nl _⟩
theorem G9(t:Tok)(w:WD):
  Calls prog 109 #[.agg #[.int .i64 t.kind,.string t.word,.string t.unit]] w fun e w'=>e=.returned (.string (closing t))/\Below w.heap.size w w':=by
 cases h11:(t.kind==11)
 .cases h15:(t.kind==15)
  .have HV:Hid (closing t=aA):=by show _=_;simp at h11 h15;simp[closing,h11,h15]
   go_in;go_wp2_with fail;go_ret;exact⟨Qr HV.o.symm,Ax.alloc nl _⟩
  .have e15:t.kind=15:=by simpa using h15
   cases Gt:(t.word.toList==[40])
   .cases KO:(t.word.toList==[91])
    .cases He:(t.word.toList==[123]);have HV:Hid (closing t=aA):=by show _=_;rw[ay]at Gt KO He;simp at Gt KO He;simp[closing,e15,b1,Gt,KO,He]
     rotate_left;have HV:Hid (closing t=b1 125):=by show _=_;rw[ay]at Gt KO He;simp at Gt KO He;simp[closing,e15,b1,He]
     rotate_left;all_goals
      clear e15;go_in;go_wp2_with fail;go_ret;exact⟨Qr HV.o.symm,Ax.alloc nl _⟩
    .have HV:Hid (closing t=b1 93):=by show _=_;rw[ay]at Gt KO;simp at Gt KO;simp[closing,e15,b1,KO]
     clear e15;go_in;go_wp2_with fail;go_ret;exact⟨Qr HV.o.symm,Ax.alloc nl _⟩
   .have HV:Hid (closing t=b1 41):=by show _=_;rw[ay]at Gt;simp at Gt;simp[closing,e15,b1,Gt]
    clear e15;go_in;go_wp2_with fail;go_ret;exact⟨Qr HV.o.symm,Ax.alloc nl _⟩
 .have HV:Hid (closing t=b1 41):=by show _=_;simp at h11;simp[closing,h11]
  go_in;go_wp2_with fail;go_ret;exact⟨Qr HV.o.symm,Ax.alloc nl _⟩
end Go.Proofs.YtlliliddljkbfaaGreat
namespace Go.Proofs.YtlliliddljkbfaaGreat.Sp
theorem pU{n:Nd}{r:List Nd}(h:n.t.kind=1):aH (n::r)=aH r:=by simp[aH,iH,h]
theorem pV{n:Nd}{r:List Nd}(h:¬n.t.kind=1):aH (n::r)=n::r:=by simp[aH,iH,h]
theorem Qs{l:List Nd}{n:Nd}(h:n.t.kind=1):lJ (l++[n])=lJ l:=by simp[lJ,pU h]
theorem Fa{l:List Nd}{n:Nd}(h:¬n.t.kind=1):lJ (l++[n])=l++[n]:=by simp[lJ,pV h]
theorem MF(l:List Nd):(aH l).length<=l.length:=by
 induction l with
 |nil=>simp[aH]
 |cons n r ih=>unfold aH;split<;>simp<;>omega
theorem Yr(l:List Nd):l=[]\/∃i x,l=i++[x]:=by
 rcases List.eq_nil_or_concat l with h|⟨i,x,h⟩
 .exact .inl h
 .exact .inr ⟨i,x,by simpa using h⟩
theorem Ah:∀(a:List Nd) (n:Nd),depth (a++[n])=max (depth a) (eU n)
 |[],n=>by simp[depth]
 |m::r,n=>by simp[depth,Ah r n,Nat.max_assoc]
theorem Ai:∀(l:List Nd) (n:Nd),n∈l->eU n<=depth l
 |m::r,n,h=>by
  rcases List.mem_cons.1 h with rfl|h
  .simp only[depth];omega
  .have:=Ai r n h;simp only[depth];omega
theorem Qu{n:Nd}(h:closing n.t=aA):eU n=0:=by cases n;unfold eU;exact if_pos h
theorem xE{n:Nd}(h:¬closing n.t=aA):eU n=depth n.kids+1:=by cases n;unfold eU;exact if_neg h
theorem tN:∀(f:Nat) (e:BY) (ts:List Tok),(mY f e ts).1.length+(mY f e ts).2.length<=ts.length
 |0,_,ts=>by simp[mY]
 |f+1,_,[]=>by simp[mY]
 |f+1,e,t::r=>by
  unfold mY;split
  .simp
  .have h1:=tN f (closing t) r;by_cases hc:closing t=aA
   .have h2:=tN f e r;simp only[if_pos hc,List.length_cons];omega
   .have h2:=tN f e (mY f (closing t) r).2;simp only[if_neg hc,List.length_cons];omega
theorem uZ:∀(n f:Nat) (e:BY) (ts:List Tok),ts.length<=n->n<=f->mY f e ts=mY n e ts
 |0,f,e,ts,h,_=>by obtain rfl:ts=[]:=List.eq_nil_of_length_eq_zero AF;cases f<;>simp[mY]
 |n+1,0,_,_,_,h=>by omega
 |n+1,f+1,e,[],_,_=>by simp[mY]
 |n+1,f+1,e,t::r,h,hf=>by
  simp only[List.length_cons]at h;have h1:=uZ n f (closing t) r AF AF;have hl:=tN n (closing t) r;unfold mY;rw[h1];by_cases hc:closing t=aA
  .simp only[if_pos hc,uZ n f e r (by omega) (by omega)]
  .simp only[if_neg hc,uZ n f e (mY n (closing t) r).2 (by omega) (by omega)]
theorem afR(f:Nat)(e:BY)(ts:List Tok)(h:ts.length<=f):mY f e ts=kids e ts:=uZ _ _ _ _ (Nat.le_refl _) h
theorem jB(e:BY):kids e []=([],[]):=by simp[kids,mY]
theorem ab3(e:BY)(ts:List Tok):(kids e ts).1.length+(kids e ts).2.length<=ts.length:=tN _ _ _
theorem qW(t:Tok)(r:List Tok):(inside t r).1.length+(inside t r).2.length<=r.length:=by
 unfold inside;split
 .simp
 .exact ab3 _ _
theorem qX{e:BY}{t:Tok}{r:List Tok}(h:e≠aA/\au t e=true):kids e (t::r)=([],r):=by simp only[kids,List.length_cons];unfold mY;rw[if_pos h]
theorem iy{e:BY}{t:Tok}{r:List Tok}(h:¬(e≠aA/\au t e=true)):kids e (t::r)=(.mk t (inside t r).1::(kids e (inside t r).2).1,(kids e (inside t r).2).2):=by
 have hl:=qW t r;have e1:(if closing t=aA then([],r) else mY r.length (closing t) r)=inside t r:=rfl;rw[<-afR r.length e (inside t r).2 (by omega)];simp only[kids,List.length_cons];conv=>lhs;unfold mY
 rw[if_neg h];rw[e1]
theorem ZP(n:Nat):∀(e:BY) (ts:List Tok),ts.length<=n->∃k,k<=ts.length/\(kids e ts).2=ts.drop k:=by
 induction n with
 |zero=>intro e ts h;obtain rfl:ts=[]:=List.eq_nil_of_length_eq_zero AF;exact⟨0,by simp,by simp[jB]⟩
 |succ n ih=>
  intro e ts h;cases ts with
  |nil=>exact⟨0,by simp,by simp[jB]⟩
  |cons t r=>
   simp only[List.length_cons]at h;by_cases hc:e≠aA/\au t e=true
   .exact⟨1,by simp,by simp[qX hc]⟩
   .rw[iy hc];have hi:∃k,k<=r.length/\(inside t r).2=r.drop k:=by
     unfold inside;split
     .exact⟨0,by simp,by simp⟩
     .exact ih _ r AF
    obtain⟨k,hk,hk2⟩:=hi;obtain⟨m,hm,hm2⟩:=ih e (inside t r).2 (by rw[hk2];simp;omega);refine⟨k+m+1,?_,?_⟩
    .rw[hk2]at hm;simp at hm⊢;omega
    .show(kids e (inside t r).2).2=_;rw[hm2,hk2,List.drop_drop];rfl
theorem Fb(t:Tok)(r:List Tok):∃k,k<=r.length/\(inside t r).2=r.drop k:=by
 unfold inside;split
 .exact⟨0,by simp,by simp⟩
 .exact ZP _ _ r (Nat.le_refl _)
end Go.Proofs.YtlliliddljkbfaaGreat.Sp
namespace Go.Proofs.YtlliliddljkbfaaGreat
open Go.Proofs.Tryz (prog)
open Go.RowKit Sp
theorem tu(B:Nat)(l:List Nd)(v:Av)(w:WD)(h:Sl (fun b=>b<B) w v l):
  Calls prog 120 #[v] w fun e w'=>∃v',e=.returned v'/\Sl (fun b=>b<B) w v' (bare l)/\w'=w:=by
 have hl:=h.len;have HS:=hid h;obtain⟨a,cap,rfl⟩:=h.form;clear h;go_in;go_wp2_with fail;go_loopg[0] l.length (fun g v0 wr=>∃(cur:List Nd) (a:Option Addr) (cap:Nat),v0=.slice a cur.length cap/\g=cur.length/\cur.length<=600/\Aside (Sl (fun b=>b<B) w (.slice a cur.length cap) cur/\aH cur=aH l/\wr=w));case atStart=>exact⟨l,a,cap,rfl,rfl,hl,HS.o,rfl,rfl⟩
 case round=>
  obtain⟨cur,a,cap,rfl,rfl,FU,hA⟩:=hrel;have HC:=hid hA.o.1;have HD:=hid hA.o.2.1;obtain rfl:=hA.o.2.2;clear hA HS hl;by_cases hx:∃n r,cur=n::r/\n.t.kind=1
  .obtain⟨n,r,rfl,hk⟩:=hx;obtain⟨g,o,rfl,hL,hcap⟩:=HC.o.here Ab;obtain⟨kv,hN⟩:=hL.node (i:=0) Ab;have c0:=hN.c0;have HT:=hid HC.o.tail;have HD2:Hid (aH r=aH l):=by show _=_;rw[<-HD.o,pU hk]
   have hb:(n.t.kind==1)=true:=by simpa using hk
   clear hN hL hk HC HD;simp only[Nat.zero_mul,Nat.add_zero,List.getElem_cons_zero,List.length_cons]at *;go_wp2_with fail
   .go_roundg r.length;case measure=>omega
    case rel=>have e:r=[]:=List.eq_nil_of_length_eq_zero oo;subst e;exact⟨[],_,_,rfl,rfl,by simp,Sl.iE _ _ _ _,HD2.o,rfl⟩
   .go_roundg r.length;case measure=>omega
    case rel=>exact⟨r,_,_,rfl,rfl,oo,HT.o,HD2.o,rfl⟩
  .have HE:Hid (aH l=cur):=by
    show _=_;rw[<-HD.o];cases cur with
    |nil=>rfl
    |cons n r=>exact pV (fun e=>hx ⟨n,r,rfl,e⟩)
   clear HD;cases cur with
   |nil=>
    clear hx;simp only[List.length_nil]at *;go_wp2_with fail;go_loopg[0] 0 (fun g v0 wq=>v0=.slice a 0 cap/\Aside (wr=wq));case atStart=>exact⟨rfl,rfl⟩
    case round=>obtain⟨rfl,hA⟩:=hrel;obtain rfl:=hA.o;clear hA;go_wp2_with fail;go_ret;exact⟨_,rfl,by unfold bare;rw[HE.o];exact Sl.iE _ _ _ _,rfl⟩
   |cons n r=>
    obtain⟨g,o,rfl,hL,hcap⟩:=HC.o.here Ab;obtain⟨kv,hN⟩:=hL.node (i:=0) Ab;have c0:=hN.c0;have hb:(n.t.kind==1)=false:=by simp;exact fun e=>hx ⟨n,r,rfl,e⟩
    clear hN hx;simp only[Nat.zero_mul,Nat.add_zero,List.getElem_cons_zero,List.length_cons]at *;go_wp2_with fail;obtain⟨all,hall⟩:∃all,all=n::r:=⟨_,rfl⟩;have HN:Hid (r.length+1=all.length):=by rw[hall];rfl
    have hal:all.length<=600:=by rw[<-HN.o];exact FU
    have hac:all.length<=cap:=by rw[<-HN.o];exact hcap
    have HL:Hid (gq (fun b=>b<B) wr all g o):=by rw[hall];exact hL
    have HC2:Hid (Sl (fun b=>b<B) wr (.slice (some ⟨g,o,none⟩) (r.length+1) cap) all):=by rw[hall];exact HC.o
    rw[<-hall]at HE;clear hL HC hall c0 hb;go_loopg[0] all.length (fun g' v0 wq=>∃(j:Nat),j<=all.length/\v0=.slice (some ⟨g,o,none⟩) j cap/\g'=j/\Aside (lJ (all.take j)=lJ all/\wr=wq));case atStart=>exact⟨all.length,Nat.le_refl _,by rw[<-HN.o],rfl,by simp,rfl⟩
    case round=>
     obtain⟨j,hj,rfl,hjg,hA⟩:=hrel;subst hjg;have HT:=hid hA.o.1;obtain rfl:=hA.o.2;clear hA;by_cases hj0:gk=0
     .subst hj0;go_wp2_with fail;go_ret;refine⟨_,rfl,?_,rfl⟩;unfold bare;rw[HE.o,<-HT.o];exact Sl.iE _ _ _ _
     .have h1:(0:Int)<(gk:Int):=oo;obtain⟨kv,hN⟩:=HL.o.node (i:=gk-1) oo;have c0:=hN.c0;have e1:all.take gk=all.take (gk-1)++[all[gk-1]]:=by
       conv=>lhs;rw[show gk=gk-1+1 from by omega]
       rw[List.take_succ_eq_append_getElem oo]
      clear hN;obtain⟨x,hxx⟩:∃x,x=all[gk-1]:=⟨_,rfl⟩;rw[<-hxx]at c0 e1;have E1:=hid e1;clear hxx e1;cases hb:(x.t.kind==1)
      .have HV:Hid (bare l=all.take gk):=by
        show _=_;unfold bare;rw[HE.o,<-HT.o,E1.o,Fa (by simpa using hb)]
       go_wp2_with fail;go_ret;refine⟨_,rfl,?_,rfl⟩;rw[HV.o];exact HC2.o.init gk hj
      .have HV:Hid (lJ (all.take (gk-1))=lJ all):=by
        show _=_;rw[<-HT.o,E1.o,Qs (by simpa using hb)]
       go_wp2_with fail;go_roundg(gk-1);case measure=>omega
       case rel=>exact⟨gk-1,oo,rfl,rfl,HV.o,rfl⟩
section
section
variable {w w':WD} {g:Nat} {a b c d:Av}
end
def qF(w:WD)(g:Nat)(a b c d:Av):WD:=(((w.setCell ⟨g,0,none⟩ a).setCell ⟨g,1,none⟩ b).setCell ⟨g,2,none⟩ c).setCell ⟨g,3,none⟩ d
theorem oO{B g:Nat}{x w:WD}(h:Below B x w)(hg:B<=g)(a b c d:Av):Below B x (qF w g a b c d):=(((h.setCell hg a).setCell hg b).setCell hg c).setCell hg d
theorem jv(w:WD){g k:Nat}(h:k≠g)(a b c d:Av):(qF w g a b c d).heap[k]?=w.heap[k]?:=by unfold qF;rw[Below.heap_setCell _ _ _ _ h,Below.heap_setCell _ _ _ _ h,Below.heap_setCell _ _ _ _ h,Below.heap_setCell _ _ _ _ h]
end
section
theorem qY{P:Program}{ops:Array Oper}{o:Oper}{a:Act}{w:WD}{K:Act->WD->Prop}{Q:Exit->Act->WD->Prop}{E:Prop}
  (hg:o.guard=none) (s x:Operand) (t:TypeId) (hop:o.op=Op.call { callee:=Callee.builtin Builtin.append,args:=#[s,x],argTypes:=#[t,t] })
  (base:Nat) (e:TypeId) (i:TypeInfo) (z:Av) (size bytes:Nat) (h1:P.underlying t=some (.slice e)) (h2:P.info? e=some i) (h3:i.zero=some z) (h4:i.size=size) (h5:i.bytes=bytes) (h6:z.cells.size=size) (h7:0<size)
  (v:Av) (n:Nat) (xs:List Av) (hs:a.eval s=v) (hown:w.ownsRow base e size v n xs)
  (ad:Addr) (m c:Nat) (news:List Av) (hx:a.eval x=.slice (some ad) m c) (hn:news.length=m*size) (hc:∀j u,news[j]?=some u->w.cell? (ad.add j)=some u) (h1c:∀u∈news,u.oneCell'=true)
  (b1:n+m<=maxLen) (b2:(n+m)*bytes<=140737488355328) (hbase:base<=w.heap.size)
  (hK:∀v' w',w'.ownsRow base e size v' (n+m) (xs++news)->w.grownBy w' v.ownBlock->(v'.ownBlock=v.ownBlock\/v'.ownBlock=some w.heap.size)->K (a.put o.dst v') w'):
  if Region.wanted o (yielded ops a.tmps)=true then Oper.wp P o a w K Q else E:=by
 have hw:Region.wanted o (yielded ops a.tmps)=true:=by simp[Region.wanted,hg]
 rw[if_pos hw];obtain⟨v',w',hr,r1,r2,_,r4⟩:=run_append_own_at (P:=P) w base t o.type e i z size bytes h1 h2 h3 h4 h5 h6 h7 v n xs hown ad m c news hn hc h1c b1 b2 hbase;unfold Oper.wp;simp[execOp,hop,resolve,invoke,builtin,hs,hx,hr,Result.andThen];exact hK v' w' r1 r2 r4
theorem Vu(w:WD)(a b c d:Av)(t:TypeId):∀j u,[a,b,c,d][j]?=some u->(w.alloc (.cells #[a,b,c,d] t)).cell? ((⟨w.heap.size,0,none⟩:Addr).add j)=some u:=by intro j u hu;rw[Addr.add_lit,Nat.zero_add,World.cell?_alloc_mark,<-hu];simp
def Hf(S:Nat->Prop)(w:WD):List (List Nd)->List Av->Prop
 |[],vs=>vs=[]
 |l::r,vs=>∃v rest,vs=v::rest/\Sl S w v l/\Hf S w r rest
theorem Hf.keep{S S':Nat->Prop}{w w':WD}(hS:∀g,S g->S' g)(hw:∀g,S g->w'.heap[g]?=w.heap[g]?):∀(l:List (List Nd)) (vs:List Av),Hf S w l vs->Hf S' w' l vs
 |[],_,h=>h
 |_::r,_,⟨v,rest,h1,h2,h3⟩=>⟨v,rest,h1,h2.keep hS hw,Hf.keep hS hw r rest h3⟩
theorem Hf.snoc{S:Nat->Prop}{w:WD}:∀(l:List (List Nd)) (vs:List Av) (_:Hf S w l vs) (x:List Nd) (v:Av) (_:Sl S w v x),Hf S w (l++[x]) (vs++[v])
 |[],vs,h,x,v,hv=>⟨v,[],by simp[show vs=[] from h],hv,rfl⟩
 |_::r,_,⟨v',rest,h1,h2,h3⟩,x,v,hv=>⟨v',rest++[v],by simp[h1],h2,Hf.snoc r rest h3 x v hv⟩
theorem Hf.at{S:Nat->Prop}{w:WD}:∀(l:List (List Nd)) (vs:List Av) (_:Hf S w l vs) (k:Nat) (hk:k<l.length),∃v,vs[k]?=some v/\Sl S w v l[k]
 |_::_,_,⟨v,rest,h1,h2,_⟩,0,_=>⟨v,by simp[h1],h2⟩
 |_::r,_,⟨_,rest,h1,_,h3⟩,k+1,hk=>by obtain⟨v,e,h⟩:=Hf.at r rest h3 k (by simpa using hk);exact⟨v,by simp[h1,e],by simpa using h⟩
theorem kQ{w:WD}{base e s n:Nat}{v:Av}{xs:List Av}(h:w.ownsRow base e s v n xs):∃a c,v=.slice a n c:=by
 rcases h.2 with⟨rfl,rfl⟩|⟨g,cap,cur,rfl,_⟩
 .exact⟨none,0,rfl⟩
 .exact⟨_,_,rfl⟩
theorem ZQ{w:WD}{base e1 e2 s1 s2 n1 n2:Nat}{v1 v2:Av}{x1 x2:List Av}(h1:w.ownsRow base e1 s1 v1 n1 x1)(h2:w.ownsRow base e2 s2 v2 n2 x2)(he:e1≠e2)(b:Nat)(hb:v1.ownBlock=some b):v2.ownBlock≠some b:=by
 rcases h1.2 with⟨rfl,_⟩|⟨g,cap,cur,rfl,_,hg,_⟩
 .cases hb
 .rcases h2.2 with⟨rfl,_⟩|⟨g',cap',cur',rfl,_,hg',_⟩
  .simp[Value.ownBlock]
  .simp only[Value.ownBlock,Option.some.injEq]at hb⊢;subst hb;intro e;injection e with e
   subst e;rw[hg]at hg';simp at hg';exact he hg'.2
section
variable {B base:Nat} {w w3:WD} {vo cv:Av} {fin:List (List Nd)} {cur:List Nd} {fvs cs:List Av}
theorem ab4(cs:List Av)(k:Nat)(hk:cs.length=k*4)(z0 z1 z2 z3 a b c d:Av):((((cs++[z0,z1,z2,z3]).set (k*4) a).set (k*4+1) b).set (k*4+2) c).set (k*4+3) d=cs++[a,b,c,d]:=by rw[<-hk];rw[List.set_append_right _ _ oo,List.set_append_right _ _ oo,List.set_append_right _ _ oo,List.set_append_right _ _ oo];simp
theorem Gu{w:WD}{base e s n:Nat}{v:Av}{xs:List Av}(h:w.ownsRow base e s v (n+1) xs):∃g c,v=.slice (some ⟨g,0,none⟩) (n+1) c:=by
 rcases h.2 with⟨_,hn⟩|⟨g,cap,cur,rfl,_⟩
 .omega
 .exact⟨_,_,rfl⟩
theorem Qv{w:WD}{base e g n cap:Nat}{cs:List Av}{z0 z1 z2 z3:Av}(h:w.ownsRow base e 4 (.slice (some ⟨g,0,none⟩) (n+1) cap) (n+1) (cs++[z0,z1,z2,z3]))(hl:cs.length=n*4):
  w.cell? ⟨g,n*4,none⟩=some z0/\w.cell? ⟨g,n*4+1,none⟩=some z1/\w.cell? ⟨g,n*4+2,none⟩=some z2/\w.cell? ⟨g,n*4+3,none⟩=some z3:=by
 refine⟨?_,?_,?_,?_⟩;all_goals
  rw[h.cellAt _ oo,List.getElem?_append_right oo];simp[hl]
theorem MC.below{n:Nd}{g o:Nat}{kv:Av}(h:MC (fun b=>b<B) w n g o kv)(hb:Below B w w3):MC (fun b=>b<B) w3 n g o kv:=by have hcell:∀q,w3.cell? ⟨g,q,none⟩=w.cell? ⟨g,q,none⟩:=fun q=>hb.cell (show g<B from h.s);exact⟨h.s,by rw[hcell];exact h.c0,by rw[hcell];exact h.c1,by rw[hcell];exact h.c2,by rw[hcell];exact h.c3,h.k.below hb nl,h.ok⟩
end
end
section
theorem bI(a b c d:Av)(w:WD):(Instr.field 199 (.agg #[a,b,c,d]) 0).run prog w=.ok (.agg #[a,b,c]) w:=by kernel_rfl
theorem bJ(a b c d:Av)(w:WD):(Instr.field 199 (.agg #[a,b,c,d]) 1).run prog w=.ok d w:=by kernel_rfl
theorem aX(a b c:Av)(w:WD):(Instr.field 93 (.agg #[a,b,c]) 0).run prog w=.ok a w:=by kernel_rfl
theorem aY(a b c:Av)(w:WD):(Instr.field 93 (.agg #[a,b,c]) 1).run prog w=.ok b w:=by kernel_rfl
attribute [local go_sem] bI bJ aX aY
structure fV(B:Nat)(w:WD)(b:Nat)(sv:Av)(l:List Nd):Prop where
 blk:w.heap[b]?=some (.cells #[sv] 270 (0,0))
 sl:Sl (fun k=>k<B) w sv l
 lo:B<=b
theorem Turn.trans'{c:Nat}{w wr w':WD}(h:Turn c w wr)(hb:Below w.heap.size wr w'):Turn c w w':=⟨hb.os.trans h.os,hb.tape.trans h.tape,hb.output.trans h.output,Nat.le_trans h.size hb.size,fun k hk hc=>(hb.block k hk).trans (h.block k hk hc)⟩
section
variable {B:Nat} {w w':WD} {b:Nat} {sv sv':Av} {l l':List Nd}
theorem fV.lt(h:fV B w b sv l):b<w.heap.size:=(Ay h.blk)
theorem fV.c0(h:fV B w b sv l):w.cell? ⟨b,0,none⟩=some sv:=by unfold World.cell?;rw[h.blk];rfl
theorem fV.f0(h:fV B w b sv l):w.frozen? ⟨b,0,none⟩=false:=by unfold World.frozen?;rw[h.blk];rfl
theorem fV.below(h:fV B w b sv l)(hb:Below w.heap.size w w'):fV B w' b sv l:=⟨by rw[hb.block b h.lt];exact h.blk,h.sl.below hb (by have:=h.lt;have:=h.lo;omega),h.lo⟩
theorem fV.turn(h:fV B w b sv l){c:Nat}(hb:Turn c w w')(hc:b<c):fV B w' b sv l:=⟨by rw[hb.block b h.lt oo];exact h.blk,h.sl.keep (fun _ hg=>hg) (fun g hg=>by have hg':g<B:=hg;have:=h.lo;have:=h.lt;exact hb.block g oo oo),h.lo⟩
theorem fV.alloc(h:fV B w b sv l)(o:Obj):fV B (w.alloc o) b sv l:=h.below (Ax.alloc nl _)
theorem fV.set(h:fV B w b sv l)(hs:Sl (fun k=>k<B) w sv' l'):fV B (w.setCell ⟨b,0,none⟩ sv') b sv' l':=by refine⟨?_,hs.keep (fun _ hg=>hg) (fun g hg=>Below.heap_setCell _ _ _ _ (by have hg':g<B:=hg;have:=h.lo;show g≠b;omega)),h.lo⟩;simp only[World.setCell,Array.getElem?_modify,h.blk];simp
theorem fV.far(h:fV B w b sv l){k:Nat}(hk:b<k)(o:Nat)(u:Av):fV B (w.setCell ⟨k,o,none⟩ u) b sv l:=⟨by rw[Below.heap_setCell _ _ _ _ (by show b≠k;omega)];exact h.blk,h.sl.keep (fun _ hg=>hg) (fun g hg=>Below.heap_setCell _ _ _ _ (by have hg':g<B:=hg;have:=h.lo;show g≠k;omega)),h.lo⟩
theorem Turn.far{c:Nat}(h:Turn c w w'){k:Nat}(hk:w.heap.size<=k)(o:Nat)(u:Av):Turn c w (w'.setCell ⟨k,o,none⟩ u):=h.trans' ⟨rfl,rfl,rfl,by simp[World.setCell],fun j hj=>Below.heap_setCell _ _ _ _ (by show j≠k;omega)⟩
theorem Sl.far{v:Av}{k:Nat}(h:Sl (fun b=>b<B) w v l)(hk:B<=k)(o:Nat)(u:Av):Sl (fun b=>b<B) (w.setCell ⟨k,o,none⟩ u) v l:=h.keep (fun _ hg=>hg) (fun g hg=>Below.heap_setCell _ _ _ _ (by have hg':g<B:=hg;show g≠k;omega))
theorem fV.len(h:fV B w b sv l):l.length<=600:=h.sl.len
end
def VB(w:WD)(b:Nat)(x0 x1 x2 x3:Av):Prop:=w.heap[b]?=some (.cells #[x0,x1,x2,x3] 199 (0,0))
section
variable {w w':WD} {b:Nat} {x0 x1 x2 x3:Av}
theorem VB.lt(h:VB w b x0 x1 x2 x3):b<w.heap.size:=(Ay h)
theorem VB.cs(h:VB w b x0 x1 x2 x3):w.cell? ⟨b,0,none⟩=some x0/\w.cell? ⟨b,1,none⟩=some x1/\w.cell? ⟨b,2,none⟩=some x2/\w.cell? ⟨b,3,none⟩=some x3:=by have h':w.heap[b]?=_:=h;refine⟨?_,?_,?_,?_⟩<;>(unfold World.cell?;rw[h'];rfl)
theorem VB.fz(h:VB w b x0 x1 x2 x3)(o:Nat):w.frozen? ⟨b,o,none⟩=false:=by have h':w.heap[b]?=_:=h;unfold World.frozen?;rw[h'];simp
theorem VB.below(h:VB w b x0 x1 x2 x3)(hb:Below w.heap.size w w'):VB w' b x0 x1 x2 x3:=by show _=_;rw[hb.block b h.lt];exact h
theorem VB.turn(h:VB w b x0 x1 x2 x3){c:Nat}(hb:Turn c w w')(hc:b≠c):VB w' b x0 x1 x2 x3:=by show _=_;rw[hb.block b h.lt hc];exact h
theorem VB.alloc(h:VB w b x0 x1 x2 x3)(o:Obj):VB (w.alloc o) b x0 x1 x2 x3:=h.below (Ax.alloc nl _)
theorem VB.new(w:WD)(x0 x1 x2 x3:Av):VB (w.alloc (.cells #[x0,x1,x2,x3] 199)) w.heap.size x0 x1 x2 x3:=heap_alloc_new w _
end
def hdN:List Nd->Nd
 |[]=>.mk (Tok.k 0) []
 |n::_=>n
theorem vg(B b:Nat)(sv:Av)(l:List Nd)(w:WD)(h:fV B w b sv l):
  Calls prog 197 #[.pointer (some ⟨b,0,none⟩)] w fun e w'=>e=.returned (.bool (l.length==0))/\w'=w:=by
 obtain⟨a,cap,rfl⟩:=h.sl.form;have c0:=h.c0;have hl:=h.len;clear h;have HV:Hid (((l.length:Int)==0)=(l.length==0)):=by show _=_;rw[Bool.eq_iff_iff];simp
 go_in;go_wp2_with fail;go_ret;exact⟨aC HV.o,rfl⟩
theorem Hg(B b:Nat)(sv:Av)(l:List Nd)(w:WD)(h:fV B w b sv l):
  Calls prog 253 #[.pointer (some ⟨b,0,none⟩)] w fun e w'=>∃kv,e=.returned (fB (hdN l).t kv)/\Sl (fun k=>k<B) w' kv (hdN l).kids/\Below w.heap.size w w':=by
 have R1:∀o,Hid (fV B (w.alloc o) b sv l):=fun o=>h.alloc o;have hlo:=h.lo;have hlt:=h.lt;cases l with
 |nil=>clear h;go_in;go_wp2_with fail;refine(vg B b sv [] _ (R1 _).o).mono ?_;rintro e w1 ⟨rfl,rfl⟩;go_wp2_with fail;refine bodyPost_ret (v:=fB (Tok.k 0) (.slice none 0 0)) (by simp[results,Tryz.results253,go_sem,fB,Tok.k];rfl) rfl ?_;exact⟨_,rfl,Sl.nil _ _,Ax.alloc nl _⟩
 |cons n r=>
  obtain⟨g,o,kv,cap,rfl,hN,hcap⟩:=h.sl.head;have hgB:g<B:=hN.s;have HN:=hid hN;have hrl:=h.len;simp only[List.length_cons]at hrl;have hn0:¬((r.length:Int)+1<=0):=oo;clear h hN;go_in;go_wp2_with fail;refine(vg B b _ (n::r) _ (R1 _).o).mono ?_;rintro e w1 ⟨rfl,rfl⟩;have c0:=(R1 (.cells #[.int .i64 0,.string ⟨#[]⟩,.string ⟨#[]⟩,.slice none 0 0] 199)).o.c0;have N1:=HN.o.below ((Below.refl B w).alloc (show B<=w.heap.size by omega) (.cells #[.int .i64 0,.string ⟨#[]⟩,.string ⟨#[]⟩,.slice none 0 0] 199));have d0:=N1.c0;have d1:=N1.c1;have d2:=N1.c2;have d3:=N1.c3;obtain⟨ka,kc,rfl⟩:=HN.o.k.form;go_wp2_with fail;refine bodyPost_ret (v:=fB n.t (.slice ka n.kids.length kc)) (by simp[results,Tryz.results253,go_sem,fB]) rfl ?_
  exact⟨_,rfl,HN.o.k.below ((Below.refl w.heap.size w).alloc nl _) oo,Ax.alloc nl _⟩
theorem yZ:∃i,prog.info? 199=some i/\i.zero=some (.agg #[.int .i64 0,.string ⟨#[]⟩,.string ⟨#[]⟩,.slice none 0 0])/\i.size=4/\i.bytes=64:=info_parts Ao
theorem Sl.MH{S:Nat->Prop}{w:WD}{a:Option Addr}{n cap:Nat}{x:Nd}{r:List Nd}(h:Sl S w (.slice a n cap) (x::r)):
  ∃a',(∀W:WD,(Instr.slice 128 (.slice a (r.length+1) cap) (some (.int .i64 1)) none none).run prog W=.ok (.slice a' r.length (cap-1)) W)/\Sl S w (.slice a' r.length (cap-1)) r:=by
 obtain⟨iT,h1,_,h3,_⟩:=yZ;refine⟨if cap=1 then a else a.map (·.add (1*4)),fun W=>?_,?_⟩
 .rw[run_slice_l (P:=prog) W 128 a (r.length+1) cap Tryz.underlying128 .i64 1 oo oo];have e:prog.elem 128=199:=by kernel_rfl
  simp[sizeOf,typeInfo,e,h1,h3,sliced,Result.andThen]
 .have:=h.cut 1 (r.length+1) oo Ab;simpa[sliced]using this
theorem sN(B b:Nat)(sv:Av)(l:List Nd)(w:WD)(h:fV B w b sv l):
  Calls prog 254 #[.pointer (some ⟨b,0,none⟩)] w fun e w'=>∃kv sv',e=.returned (fB (hdN l).t kv)/\Sl (fun k=>k<B) w' kv (hdN l).kids/\fV B w' b sv' l.tail/\Turn b w w':=by
 have R1:∀o,Hid (fV B (w.alloc o) b sv l):=fun o=>h.alloc o;have hlo:=h.lo;have hlt:=h.lt;have FU:=h.len;clear h;have T1:∀o,Hid (Turn b w (w.alloc o)):=fun o=>(Turn.refl b w).alloc o;have z1:∀o,w.heap.size<(w.alloc o).heap.size:=fun o=>by simp
 go_in;go_wp2_with fail;generalize hW:w.alloc (.cells #[.int .i64 0,.string ⟨#[]⟩,.string ⟨#[]⟩,.slice none 0 0] 199)=w1 at *;have R2:Hid (fV B w1 b sv l):=by rw[<-hW];exact R1 _
 have T2:Hid (Turn b w w1):=by rw[<-hW];exact T1 _
 have Z2:Hid (w1.heap[w.heap.size]?=some (.cells #[.int .i64 0,.string ⟨#[]⟩,.string ⟨#[]⟩,.slice none 0 0] 199 (0,0))):=by rw[<-hW];exact heap_alloc_new w _
 clear hW R1 T1 z1;obtain⟨gr,Hgr⟩:=Nm w.heap.size;rw[Hgr.o]at Z2⊢;have Z2':Hid (VB w1 gr (.int .i64 0) (.string ⟨#[]⟩) (.string ⟨#[]⟩) (.slice none 0 0)):=Z2;clear Z2;refine(Hg B b sv l _ R2.o).mono ?_;rintro e w2 ⟨kv,rfl,hk,hb2⟩;have R3:=hid (R2.o.below hb2);have T3:=hid (T2.o.trans (Turn.of_below hb2));have Z3:=hid (Z2'.o.below hb2);obtain⟨n,Hn⟩:=Nm (hdN l);rw[Hn.o]at hk⊢;obtain⟨ka,kc,rfl⟩:=hk.form;have HK3:=hid hk;clear hk hb2 R2 T2 Z2';unfold fB
 have A4:Hid (VB (w2.alloc (.cells #[.int .i64 n.t.kind,.string n.t.word,.string n.t.unit,.slice ka n.kids.length kc] 199)) w2.heap.size (.int .i64 n.t.kind) (.string n.t.word) (.string n.t.unit) (.slice ka n.kids.length kc)):=VB.new _ _ _ _ _;have R4:Hid (fV B (w2.alloc (.cells #[.int .i64 n.t.kind,.string n.t.word,.string n.t.unit,.slice ka n.kids.length kc] 199)) b sv l):=R3.o.alloc _;have T4:Hid (Turn b w (w2.alloc (.cells #[.int .i64 n.t.kind,.string n.t.word,.string n.t.unit,.slice ka n.kids.length kc] 199))):=T3.o.alloc _;have Z4:Hid (VB (w2.alloc (.cells #[.int .i64 n.t.kind,.string n.t.word,.string n.t.unit,.slice ka n.kids.length kc] 199)) gr (.int .i64 0) (.string ⟨#[]⟩) (.string ⟨#[]⟩) (.slice none 0 0)):=Z3.o.alloc _
 have K4:Hid (Sl (fun k=>k<B) (w2.alloc (.cells #[.int .i64 n.t.kind,.string n.t.word,.string n.t.unit,.slice ka n.kids.length kc] 199)) (.slice ka n.kids.length kc) n.kids):=HK3.o.below ((Below.refl w2.heap.size w2).alloc nl _) (by have:=R3.o.lt;omega);have hgz:gr<w2.heap.size:=Z3.o.lt;have hbz:b<w2.heap.size:=R3.o.lt;have hbg:¬b=gr:=by have:=Hgr.o;omega
 clear R3 T3 Z3 HK3;go_upto_region 2 with fail
 generalize w2.alloc (.cells #[.int .i64 n.t.kind,.string n.t.word,.string n.t.unit,.slice ka n.kids.length kc] 199)=w4 at *;generalize w2.heap.size=gt at *;go_wp2_with fail;refine(vg B b sv l _ R4.o).mono ?_;rintro e w5 ⟨rfl,rfl⟩;obtain⟨a0,a1,a2,a3⟩:=A4.o.cs;have z0:=Z4.o.fz 0;have z1:=Z4.o.fz 1;have z2:=Z4.o.fz 2;have z3:=Z4.o.fz 3;obtain⟨y0,y1,y2,y3⟩:=Z4.o.cs;have hgg:¬gt=gr:=oo;have hbt:¬b=gt:=oo;cases l with
 |nil=>go_wp2_with fail;refine bodyPost_ret (v:=fB n.t (.slice ka n.kids.length kc)) (by simp[results,Tryz.results254,go_sem,fB,y0,y1,y2,y3]) rfl ?_;have hgr:=Hgr.o;exact⟨_,sv,by rw[Hn.o],by rw[Hn.o];exact(((K4.o.far oo _ _).far oo _ _).far oo _ _).far oo _ _,(((R4.o.far oo _ _).far oo _ _).far oo _ _).far oo _ _,(((T4.o.far oo _ _).far oo _ _).far oo _ _).far oo _ _⟩
 |cons m r=>obtain⟨g,o,kv2,cap,rfl,hN,hcap⟩:=R4.o.sl.head;obtain⟨a',hcut,hS⟩:=R4.o.sl.MH;have c0:=R4.o.c0;have f0:=R4.o.f0;simp only[List.length_cons]at FU;go_wp2_with fail;have R6:=R4.o.set hS;refine bodyPost_ret (v:=fB n.t (.slice ka n.kids.length kc)) (by simp[results,Tryz.results254,go_sem,fB,y0,y1,y2,y3]) rfl ?_;have hgr:=Hgr.o;exact⟨_,_,by rw[Hn.o],by rw[Hn.o];exact((((K4.o.far oo _ _).far oo _ _).far oo _ _).far oo _ _).far oo _ _,(((R6.far oo _ _).far oo _ _).far oo _ _).far oo _ _,((((T4.o.setCell _ _).far oo _ _).far oo _ _).far oo _ _).far oo _ _⟩
def zy(s:BY)(l:List Nd):List Nd:=if au (hdN l).t s=true then l.tail else l
theorem y5{s:BY}{l:List Nd}(h:au (hdN l).t s=false):zy s l=l:=by unfold zy;rw[h];rfl
theorem qZ{s:BY}{l:List Nd}(h:au (hdN l).t s=true):zy s l=l.tail:=by unfold zy;rw[if_pos h]
theorem oP(B b:Nat)(sv:Av)(l:List Nd)(s:BY)(w:WD)(h:fV B w b sv l):
  Calls prog 255 #[.pointer (some ⟨b,0,none⟩),.string s] w fun e w'=>∃sv',e=.returned (.bool (au (hdN l).t s))/\fV B w' b sv' (zy s l)/\Turn b w w':=by
 have R1:=hid h;clear h;go_in;go_wp2_with fail;refine(Hg B b sv l _ R1.o).mono ?_;rintro e w1 ⟨kv,rfl,_,hb1⟩;have R2:=hid (R1.o.below hb1);have T2:Hid (Turn b w w1):=Turn.of_below hb1;clear hb1 R1;go_wp2_with fail;refine pmb (jf _ kv s _) fun w2 hb2=>?_;have R3:=hid (R2.o.below hb2);have T3:=hid (T2.o.trans (Turn.of_below hb2));clear hb2 R2 T2;obtain⟨c,Hc⟩:=Nm (au (hdN l).t s);rw[Hc.o];cases c
 .go_wp2_with fail;go_ret;exact⟨_,aC Hc.o.symm,by rw[y5 Hc.o];exact R3.o,T3.o⟩
 .go_wp2_with fail;refine(sN B b sv l _ R3.o).mono ?_;rintro e w4 ⟨kv4,sv4,rfl,_,ZR,hT4⟩;have R5:=hid ZR;have T5:=hid (T3.o.trans hT4);clear ZR hT4;go_wp2_with fail;go_ret;exact⟨_,aC Hc.o.symm,by rw[qZ Hc.o];exact R5.o,T5.o⟩
theorem y7(B b:Nat)(sv:Av)(l:List Nd)(w:WD)(h:fV B w b sv l):
  Calls prog 258 #[.pointer (some ⟨b,0,none⟩)] w fun e w'=>∃sv',e=.returned (.bool (decide ((aH l).length<l.length)))/\fV B w' b sv' (aH l)/\Turn b w w':=by
 have R1:=hid h;clear h;go_in;go_wp2_with fail;go_loopg[3] l.length (fun g v3 wr=>∃(cur:List Nd) (sv:Av) (p:Bool),v3=.bool p/\g=cur.length/\Aside (fV B wr b sv cur/\Turn b w wr/\aH cur=aH l/\cur.length<=l.length/\p=decide (cur.length<l.length)));case atStart=>exact⟨l,sv,false,rfl,rfl,R1.o,Turn.refl _ _,rfl,Nat.le_refl _,by simp⟩
 case round=>
  obtain⟨cur,sv,p,rfl,rfl,hA⟩:=hrel;have R2:=hid hA.o.1;have T2:=hid hA.o.2.1;have HD:=hid hA.o.2.2.1;have HL:=hid hA.o.2.2.2;clear hA R1;go_wp2_with fail;refine(Hg B b sv cur _ R2.o).mono ?_;rintro e w1 ⟨kv,rfl,_,hb1⟩;have R3:=hid (R2.o.below hb1);have T3:=hid (T2.o.trans (Turn.of_below hb1));clear hb1 R2 T2;unfold fB;cases hk:((hdN cur).t.kind==1)
  .have HE:Hid (aH l=cur):=by
    show _=_;rw[<-HD.o];cases cur with
    |nil=>rfl
    |cons n r=>exact pV (by simpa[hdN]using hk)
   have HV:Hid (p=decide ((aH l).length<l.length)):=by show _=_;rw[HE.o];exact HL.o.2
   go_wp2_with fail;go_ret;exact⟨_,aC HV.o,by rw[HE.o];exact R3.o,T3.o⟩
  .obtain⟨n,r,rfl,hn⟩:∃n r,cur=n::r/\n.t.kind=1:=by
    cases cur with
    |nil=>simp[hdN,Tok.k]at hk
    |cons n r=>exact⟨n,r,rfl,by simpa[hdN]using hk⟩
   have HD2:Hid (aH r=aH l):=by show _=_;rw[<-HD.o,pU hn]
   have HL2:Hid (r.length<=l.length/\true=decide (r.length<l.length)):=by have:=HL.o.1;simp only[List.length_cons]at this;exact⟨oo,by simp;omega⟩
   clear hn HD HL;go_wp2_with fail;refine(sN B b sv (n::r) _ R3.o).mono ?_;rintro e w4 ⟨kv4,sv4,rfl,_,ZR,hT4⟩;have R5:=hid ZR;have T5:=hid (T3.o.trans hT4);clear ZR hT4;go_wp2_with fail;go_roundg r.length;case measure=>simp
   case rel=>exact⟨r,sv4,true,rfl,rfl,R5.o,T5.o,HD2.o,HL2.o.1,HL2.o.2⟩
end
end Go.Proofs.YtlliliddljkbfaaGreat
namespace Go.Proofs.YtlliliddljkbfaaGreat
open Go.Proofs.Tryz (prog)
open Go.RowKit
theorem wpList_append_str{P:Program}(w:World){ops:Array Oper}{rest:List Oper}{o:Oper}{a:Act}{Q:Exit->Act->World->Prop}
  (hg:o.guard=none) (s x:Operand) (t tx:TypeId) (hop:o.op=Op.call { callee:=Callee.builtin Builtin.append,args:=#[s,x],argTypes:=#[t,tx] })
  (base:Nat) (e:TypeId) (i:TypeInfo) (h1:P.underlying t=some (.slice e)) (h1x:P.underlying tx=some .string) (h2:P.info? e=some i) (h4:i.size=1)
  (g k cap:Nat) (xs:List Value) (hs:a.eval s=.slice (some ⟨g,0,none⟩) k cap) (hown:w.ownsRow base e 1 (.slice (some ⟨g,0,none⟩) k cap) k xs) (str:ByteArray) (hx:a.eval x=.string str) (b1:k+str.size<=cap)
  (hK:∀w',w'.ownsRow base e 1 (.slice (some ⟨g,0,none⟩) (k+str.size) cap) (k+str.size) (xs++byteCells str)->w.grownBy w' (some g)->wpList P ops Q rest (a.put o.dst (.slice (some ⟨g,0,none⟩) (k+str.size) cap)) w'):
  wpList P ops Q (o::rest) a w:=by
 refine wpList_plain hg fun K hK'=>?_;have hl:(byteCells str).length=str.size:=byteCells_length str;have hone:∀u∈byteCells str,u.oneCell'=true:=(Src.ofString (P:=P) w h1x str).one;rcases hown.2 with⟨hv,_⟩|⟨g',cap',cur,hv,hb,hgg,hnc,hcm,hcs,htake⟩
 .cases hv
 .have hv':g=g'/\cap=cap':=by
   injection hv with e1 e2 e3
   injection e1 with e1
   injection e1 with e1
   exact⟨e1,e3⟩
  obtain⟨rfl,rfl⟩:=hv';have hx0:=hown.1;have hst:=run_storeCells_at P g k e (byteCells str) 0 cur w hgg (by rw[hl,hcs];omega) hone;simp only[Nat.add_zero]at hst;have hrun:(Builtin.append_ #[t,tx] o.type #[.slice (some ⟨g,0,none⟩) k cap,.string str]).run P w =
    .ok (.slice (some ⟨g,0,none⟩) (k+str.size) cap) (w.setRow g (cur.toList.take k++byteCells str++cur.toList.drop (k+(byteCells str).length)).toArray):=by
   have hf:=firstCells_string (P:=P) str w;simp[Builtin.append_,run_underlying h1,run_underlying h1x,sizeOf,typeInfo,h2,h4,Builtin.lenOf,b1,hf,Addr.add_lit,hst]
  unfold Oper.wp;simp only[execOp,hop,resolve,invoke,builtin,Sem.run_bind,Sem.run_pure,Result.andThen_ok,List.map_toArray,List.map_cons,List.map_nil,hs,hx,hrun];refine hK' _ _ (hK _ ⟨?_,.inr ⟨g,cap,_,rfl,hb,setRow_heap w g cur _ e _ hgg,b1,hcm,?_,?_⟩⟩ ⟨rfl,rfl,rfl,by simp,fun k' _ hk=>setRow_other w g k' _ (fun e=>hk (by rw[e]))⟩)
  .rw[List.length_append,hx0,hl];omega
  .simp only[List.size_toArray,List.length_append,List.length_take,List.length_drop,Array.length_toList,hl];omega
  .have h3:(k+str.size)*1=(cur.toList.take k++byteCells str).length:=by
    simp only[List.length_append,List.length_take,Array.length_toList,hl];omega
   rw[h3];dsimp only
   rw[List.take_left];congr 1
   rw[<-htake];simp
theorem conv_own{P:Program}(w:World)(src dst e:TypeId)(hs:P.underlying src=some (.slice e))(he:P.underlying e=some (.int .u8))(hd:P.underlying dst=some .string)
  {base:Nat}{v:Value} (l:List UInt8) (hown:w.ownsRow base e 1 v l.length (l.map fun b=>Value.int .u8 (b.toNat:Int))):
  (convert src dst v).run P w=.ok (.string ⟨l.toArray⟩) w:=by
 rcases hown.2 with⟨rfl,h0⟩|⟨g,cap,cur,rfl,hb,hgg,hnc,hcm,hcs,htake⟩
 .have:l=[]:=List.eq_nil_of_length_eq_zero h0;subst this;rw[run_convert_bytes_nil w src e hs he 0 0 dst hd];rfl
 .refine run_convert_bytes_back w src dst e ⟨g,0,none⟩ cap l hs he hd ?_;intro j hj;exact hown.cells (g:=g) rfl j _ (by simp[hj])
theorem byteCells_map(s:ByteArray):byteCells s=s.data.toList.map fun b=>Value.int .u8 (b.toNat:Int):=rfl
theorem info_u8:∃i,prog.info? 5=some i/\i.zero=some (.int .u8 0)/\i.size=1/\i.bytes=1:=info_parts (by kernel_rfl)
theorem info_str:∃i,prog.info? 9=some i/\i.zero=some (.string ⟨#[]⟩)/\i.size=1/\i.bytes=16:=info_parts (by kernel_rfl)
theorem info_tok:∃i,prog.info? 93=some i/\i.zero=some (.agg #[.int .i64 0,.string ⟨#[]⟩,.string ⟨#[]⟩])/\i.size=3/\i.bytes=40:=info_parts (by kernel_rfl)
end Go.Proofs.YtlliliddljkbfaaGreat
namespace Go.Proofs.YtlliliddljkbfaaGreat
open Go.Proofs.Tryz (prog)
open Go.RowKit
def aG:List ByteArray->ByteArray
 |[]=>ByteArray.empty
 |x::r=>x++aG r
def total:List ByteArray->Nat
 |[]=>0
 |x::r=>x.size+total r
theorem dh:∀(a b:List ByteArray),total (a++b)=total a+total b
 |[],b=>by simp[total]
 |x::a,b=>by simp[total,dh a b];omega
theorem qG:∀(a b:List ByteArray),aG (a++b)=aG a++aG b
 |[],b=>by simp[aG]
 |x::a,b=>by simp[aG,qG a b,ByteArray.append_assoc]
theorem oQ:∀(a:List ByteArray),(aG a).size=total a
 |[]=>rfl
 |x::a=>by simp[aG,total,oQ a]
theorem dw(a:List ByteArray)(x:ByteArray):aG (a++[x])=aG a++x:=by simp[qG,aG]
theorem take_snoc{α:Type}(l:List α)(k:Nat)(h:k<l.length):l.take (k+1)=l.take k++[l[k]]:=by rw[List.take_succ_eq_append_getElem h]
theorem pK(l:List ByteArray)(k:Nat):total (l.take k)<=total l:=by have:=dh (l.take k) (l.drop k);rw[List.take_append_drop]at this;omega
theorem Qw(a b:ByteArray):byteCells (a++b)=byteCells a++byteCells b:=by simp[byteCells,ByteArray.data_append]
theorem ZT(ps:List ByteArray)(g cap base:Nat)(w:World)(h:w.ownsRow base 9 1 (.slice (some ⟨g,0,none⟩) ps.length cap) ps.length (ps.map Value.string))(hn:ps.length<=1099511627776)(ht:total ps<=1099511627776):
  Calls prog 72 #[.slice (some ⟨g,0,none⟩) ps.length cap] w fun e w'=>e=.returned (.string (aG ps))/\Below w.heap.size w w':=by
 have hcell:∀k (hk:k<ps.length),w.cell? ⟨g,k,none⟩=some (.string ps[k]):=by intro k hk;have:=h.cells (g:=g) rfl k (.string ps[k]) (by simp[hk]);rwa[Addr.add_lit,Nat.zero_add]at this
 have amk:g<w.heap.size:=(h.lt g rfl).2;clear h;have HC:Hid (∀k (hk:k<ps.length),w.cell? ⟨g,k,none⟩=some (.string ps[k])):=hcell;clear hcell;obtain⟨iU,hiU,hzU,hsU,hbU⟩:=info_u8;have HI:Hid (prog.info? 5=some iU/\iU.zero=some (.int .u8 0)/\iU.size=1/\iU.bytes=1):=⟨hiU,hzU,hsU,hbU⟩;clear hiU hzU hsU hbU;go_in;go_wp2_with fail;go_loopg[3,11] ps.length (fun gg v3 v11 wr=>∃k:Nat,k+gg=ps.length/\v11=.int .i64 (k:Int)/\v3=.int .i64 (total (ps.take k):Int)/\Aside (w=wr));case atStart=>exact⟨0,by omega,rfl,rfl,rfl⟩
 case round=>
  obtain⟨k,hk,rfl,rfl,hA⟩:=hrel;obtain rfl:=hA.out;clear hA;have hle:=pK ps k;by_cases hlt:k<ps.length
  .have hc:=HC.out k hlt;have hT:Hid (total (ps.take (k+1))=total (ps.take k)+ps[k].size):=by
    show _=_;rw[take_snoc ps k hlt,dh];simp[total]
   have hle2:=pK ps (k+1);have hsz:ps[k].size<=1099511627776:=by have:=hT.out;omega
   clear hle2;go_wp2_with fail;go_roundg(gk-1);case measure=>omega
   case rel=>exact⟨k+1,by omega,by congr 1,by rw[hT.out];congr 1,rfl⟩
  .have hk2:Hid (k=ps.length):=by show k=_;omega
   have hT:Hid (ps.take k=ps):=by show _=_;rw[hk2.out];simp
   have hsum:Hid (total (ps.take k)=total ps):=by show _=_;rw[hT.out]
   generalize hm:total (ps.take k)=m at *;have Hm:Hid (m=total ps):=hsum.out;clear hm hsum hT;have ane:m<=1099511627776:=by omega
   go_wp2_with(at_make;refine wpList_make_own _ rfl _ _ 145 rfl w.heap.size 5 iU (.int .u8 0) 1 Tryz.underlying145 HI.out.1 HI.out.2.1 HI.out.2.2.1 _ _ _ m rfl rfl rfl ?_ ?_ ?_ ?_)
   .rw[HI.out.2.2.2];omega
   .unfold maxLen;omega
   .exact Nat.le_refl _
   intro w1 hown1 Qx;have hb1:Below w.heap.size w w1:=(Below.refl _ _).grown Qx (Nat.le_refl _) (fun _ h=>by cases h);have HB1:Hid (Below w.heap.size w w1):=hb1;have uS:Hid (w1.ownsRow w.heap.size 5 1 (.slice (some ⟨w.heap.size,0,none⟩) 0 m) 0 []):=hown1;clear hown1 Qx hb1;go_wp2_with fail;go_loopg[6,24] ps.length (fun gg v6 v24 w2=>∃j:Nat,j+gg=ps.length/\v24=.int .i64 (j:Int)/\v6=.slice (some ⟨w.heap.size,0,none⟩) (total (ps.take j)) m /\
    Aside (w2.ownsRow w.heap.size 5 1 (.slice (some ⟨w.heap.size,0,none⟩) (total (ps.take j)) m) (total (ps.take j)) (byteCells (aG (ps.take j)))/\Below w.heap.size w w2))
   case atStart=>exact⟨0,by omega,rfl,rfl,uS.out,HB1.out⟩
   case round=>
    obtain⟨j,hj,rfl,rfl,hA⟩:=hrel;have HO:Hid (wr.ownsRow w.heap.size 5 1 (.slice (some ⟨w.heap.size,0,none⟩) (total (ps.take j)) m) (total (ps.take j)) (byteCells (aG (ps.take j)))):=hA.out.1;have HB:Hid (Below w.heap.size w wr):=hA.out.2;clear hA;have hle2:=pK ps j;by_cases hlt2:j<ps.length
    .have hc:wr.cell? ⟨g,j,none⟩=some (.string ps[j]):=by
      rw[HB.out.cell (p:=⟨g,j,none⟩) amk];exact HC.out j hlt2
     have hT:Hid (total (ps.take (j+1))=total (ps.take j)+ps[j].size):=by show _=_;rw[take_snoc ps j hlt2,dh];simp[total]
     have hle3:total (ps.take j)+ps[j].size<=m:=by have h1:=pK ps (j+1);have h2:=hT.out;have h3:=Hm.out;omega
     generalize hpj:ps[j]=q at *;generalize htj:total (ps.take j)=tj at *;have Hpj:Hid (ps[j]=q):=hpj;have Htj:Hid (total (ps.take j)=tj):=htj;clear hpj htj;go_wp2_with(at_builtin;refine wpList_append_str _ rfl _ _ 145 9 rfl w.heap.size 5 iU Tryz.underlying145 Tryz.underlying9 HI.out.1 HI.out.2.2.1 w.heap.size tj m (byteCells (aG (ps.take j))) rfl HO.out q rfl hle3 ?_);intro w3 hown3 ab5;have HO3:Hid (w3.ownsRow w.heap.size 5 1 (.slice (some ⟨w.heap.size,0,none⟩) (tj+q.size) m) (tj+q.size) (byteCells (aG (ps.take j))++byteCells q)):=hown3;have HB3:Hid (Below w.heap.size w w3):=HB.out.grown ab5 HB.out.size (fun k hk=>by cases hk;exact Nat.le_refl _);clear hown3 ab5;go_wp2_with fail;go_roundg(gk-1);case measure=>omega
     case rel=>refine⟨j+1,by omega,by congr 1,by rw[hT.out],?_,HB3.out⟩;rw[hT.out,take_snoc ps j hlt2,dw,Qw,Hpj.out];exact HO3.out
    .have hT:Hid (ps.take j=ps):=by show _=_;rw[List.take_of_length_le (by omega)]
     have hcv:(convert 145 9 (.slice (some ⟨w.heap.size,0,none⟩) (total (ps.take j)) m)).run prog wr=.ok (.string (aG ps)) wr:=by
      have h1:=HO.out;rw[hT.out]at h1⊢;rw[byteCells_map]at h1;have h2:=conv_own (P:=prog) wr 145 9 5 Tryz.underlying145 Tryz.underlying5 Tryz.underlying9 (base:=w.heap.size) (v:=.slice (some ⟨w.heap.size,0,none⟩) (total ps) m) (aG ps).data.toList (by
       have e:(aG ps).data.toList.length=total ps:=by rw[<-oQ];rfl
       rw[e];exact h1)
      simpa using h2
     go_wp2_with fail;go_ret;exact⟨rfl,HB.out⟩
theorem ZU(w:World):Calls prog 72 #[.slice none 0 0] w fun e w'=>e=.returned (.string ByteArray.empty)/\Below w.heap.size w w':=by
 obtain⟨iU,hiU,hzU,hsU,hbU⟩:=info_u8;have HI:Hid (prog.info? 5=some iU/\iU.zero=some (.int .u8 0)/\iU.size=1/\iU.bytes=1):=⟨hiU,hzU,hsU,hbU⟩;clear hiU hzU hsU hbU;go_in;go_wp2_with fail;go_loopg[3,11] 0 (fun gg v3 v11 wr=>v11=.int .i64 0/\v3=.int .i64 0/\Aside (w=wr));case atStart=>exact⟨rfl,rfl,rfl⟩
 case round=>
  obtain⟨rfl,rfl,hA⟩:=hrel;obtain rfl:=hA.out;clear hA;go_wp2_with(at_make;refine wpList_make_own _ rfl _ _ 145 rfl w.heap.size 5 iU (.int .u8 0) 1 Tryz.underlying145 HI.out.1 HI.out.2.1 HI.out.2.2.1 _ _ _ 0 rfl rfl rfl ?_ ?_ ?_ ?_)
  .omega
  .unfold maxLen;omega
  .exact Nat.le_refl _
  intro w1 hown1 Qx;have HB1:Hid (Below w.heap.size w w1):=(Below.refl _ _).grown Qx (Nat.le_refl _) (fun _ h=>by cases h);have uS:Hid (w1.ownsRow w.heap.size 5 1 (.slice (some ⟨w.heap.size,0,none⟩) 0 0) 0 []):=hown1;clear hown1 Qx;go_wp2_with fail;go_loopg[6,24] 0 (fun gg v6 v24 w2=>v24=.int .i64 0/\v6=.slice (some ⟨w.heap.size,0,none⟩) 0 0/\Aside (w1=w2));case atStart=>exact⟨rfl,rfl,rfl⟩
  case round=>
   obtain⟨rfl,rfl,hA⟩:=hrel;obtain rfl:=hA.out;clear hA;have hcv:(convert 145 9 (.slice (some ⟨w.heap.size,0,none⟩) 0 0)).run prog w1=.ok (.string ByteArray.empty) w1:=conv_own (P:=prog) w1 145 9 5 Tryz.underlying145 Tryz.underlying5 Tryz.underlying9 (base:=w.heap.size) (v:=.slice (some ⟨w.heap.size,0,none⟩) 0 0) [] uS.out
   go_wp2_with fail;go_ret;exact⟨rfl,HB1.out⟩
theorem dQ(ps:List ByteArray)(base:Nat)(v:Value)(w:World)(h:w.ownsRow base 9 1 v ps.length (ps.map Value.string))(hn:ps.length<=1099511627776)(ht:total ps<=1099511627776):
  Calls prog 72 #[v] w fun e w'=>e=.returned (.string (aG ps))/\Below w.heap.size w w':=by
 rcases h.2 with⟨rfl,h0⟩|⟨g,cap,cur,rfl,_⟩
 .have:ps=[]:=List.eq_nil_of_length_eq_zero h0;subst this;exact ZU w
 .exact ZT ps g cap base w h hn ht
end Go.Proofs.YtlliliddljkbfaaGreat
namespace Go.Proofs.YtlliliddljkbfaaGreat
open Go.Proofs.Tryz (prog)
open Go.RowKit Sp
theorem ZV(c:UInt8):(jr c).toNat=if 65<=c.toNat/\c.toNat<=90 then c.toNat+32 else c.toNat:=by
 unfold jr;have h:=c.toNat_lt;by_cases h1:65<=c/\c<=90
 .rw[if_pos h1];have h2:65<=c.toNat/\c.toNat<=90:=by simpa[UInt8.le_iff_toNat_le]using h1
  rw[if_pos h2,UInt8.toNat_add];simp;omega
 .rw[if_neg h1,if_neg (by simpa[UInt8.le_iff_toNat_le]using h1)]
def Bytes(w:World)(g:Nat)(s:BY)(k:Nat):Prop:=
 (∀j (hj:j<s.size),w.cell? ⟨g,j,none⟩=some (.int .u8 (if j<k then((jr s[j]).toNat:Int) else(s[j].toNat:Int)))) /\
 (∀j,j<s.size->w.frozen? ⟨g,j,none⟩=false)/\g<w.heap.size
theorem Bytes.step{w:World}{g:Nat}{s:BY}{k:Nat}(h:Bytes w g s k)(hk:k<s.size):Bytes (w.setCell ⟨g,k,none⟩ (.int .u8 ((jr s[k]).toNat:Int))) g s (k+1):=by
 refine⟨fun j hj=>?_,fun j hj=>?_,by simpa[World.setCell]using h.2.2⟩
 .by_cases e:j=k
  .subst e;rw[if_pos (by omega)];apply World.cell?_setCell_same
   exact h.1 j hj
  .have h1:=h.1 j hj;have h2:(w.setCell ⟨g,k,none⟩ (.int .u8 ((jr s[k]).toNat:Int))).cell? ⟨g,j,none⟩=w.cell? ⟨g,j,none⟩:=by
    apply World.cell?_setCell_other
    intro h0;exact e (congrArg Addr.off h0).symm
   rw[h2,h1];congr 2
   by_cases h3:j<k
   .rw[if_pos h3,if_pos (by omega)]
   .rw[if_neg h3,if_neg (by omega)]
 .have:=h.2.1 j hj;simpa using this
theorem Bytes.stay{w:World}{g:Nat}{s:BY}{k:Nat}(h:Bytes w g s k)(hk:k<s.size)(e:jr s[k]=s[k]):Bytes w g s (k+1):=by
 refine⟨fun j hj=>?_,h.2.1,h.2.2⟩;rw[h.1 j hj];congr 2
 by_cases h3:j<k
 .rw[if_pos h3,if_pos (by omega)]
 .rw[if_neg h3];by_cases h4:j<k+1
  .obtain rfl:j=k:=by omega
   rw[if_pos h4,e]
  .rw[if_neg h4]
theorem Bytes.conv{w:World}{g:Nat}{s:BY}{k cap:Nat}(h:Bytes w g s k)(hk:s.size<=k):
  (convert 145 9 (.slice (some ⟨g,0,none⟩) s.size cap)).run prog w=.ok (.string (small s)) w:=by
 have hl:(s.data.toList.map jr).length=s.size:=by simp
 have:=run_convert_bytes_back (P:=prog) w 145 9 5 ⟨g,0,none⟩ cap (s.data.toList.map jr) Tryz.underlying145 Tryz.underlying5 Tryz.underlying9 (by intro j hj;rw[hl]at hj;rw[Addr.add_lit,Nat.zero_add,h.1 j hj,if_pos (by omega)];simp;rfl)
 rw[hl]at this;exact this
theorem ab6(s:BY)(w:World):∃w1 cap,(convert 9 145 (.string s)).run prog w=.ok (.slice (some ⟨w.heap.size,0,none⟩) s.size cap) w1/\(Bytes w1 w.heap.size s 0/\Below w.heap.size w w1)/\w.heap.size<w1.heap.size:=by
 refine⟨_,_,run_bytes_of_string (P:=prog) w 9 145 5 s Tryz.underlying9 Tryz.underlying145 Tryz.underlying5,⟨⟨?_,?_,?_⟩,?_⟩,?_⟩
 .intro j hj;rw[if_neg (by omega)];have e:=World.cell?_alloc_mark w.drew (bytesRow s (grownCap w s.size 0 5)) 5 ((bytesRow s (grownCap w s.size 0 5)).size,(bytesRow s (grownCap w s.size 0 5)).size+1) j;have e2:w.drew.heap.size=w.heap.size:=rfl;rw[e2]at e;rw[e];unfold bytesRow;rw[Array.getElem?_append_left (by simpa using hj)];simp[hj];rfl
 .intro j hj;have hsz:s.size<=(bytesRow s (grownCap w s.size 0 5)).size:=by simp[bytesRow]
  unfold World.frozen?;have e:=heap_alloc_new w.drew (.cells (bytesRow s (grownCap w s.size 0 5)) 5 ((bytesRow s (grownCap w s.size 0 5)).size,(bytesRow s (grownCap w s.size 0 5)).size+1));have e2:w.drew.heap.size=w.heap.size:=rfl;rw[e2]at e;rw[e];simp;omega
 .simp
 .exact((Below.refl _ w).drew).alloc (Nat.le_refl _) _
 .simp
theorem nH(s:BY)(w:World)(hs:s.size<=4000000):
  Calls prog 65 #[.string s] w fun e w'=>e=.returned (.string (small s))/\Below w.heap.size w w':=by
 obtain⟨w1,cap,hrun,hbs,hsz⟩:=ab6 s w;have HB:Hid (Bytes w1 w.heap.size s 0):=hbs.1;have HW:Hid (Below w.heap.size w w1):=hbs.2;clear hbs;go_in;go_wp2_with fail;go_loopg[10] s.size (fun g v10 wr=>∃k:Nat,k+g=s.size/\v10=.int .i64 (k:Int)/\Aside (Bytes wr w.heap.size s k/\Below w.heap.size w wr));case atStart=>exact⟨0,by omega,rfl,HB.out,HW.out⟩
 case round=>
  obtain⟨k,hk,rfl,hA⟩:=hrel;have H1:Hid (Bytes wr w.heap.size s k):=hA.out.1;have H2:Hid (Below w.heap.size w wr):=hA.out.2;clear hA;by_cases hlt:k<s.size
  .have hc:wr.cell? ⟨w.heap.size,k,none⟩=some (.int .u8 (s[k].toNat:Int)):=by rw[H1.out.1 k hlt,if_neg (by omega)]
   have hf:=H1.out.2.1 k hlt;have hl:=H1.out.2.2;have hb:s[k].toNat<256:=s[k].toNat_lt;have HS:Hid ((jr s[k]).toNat=if 65<=s[k].toNat/\s[k].toNat<=90 then s[k].toNat+32 else s[k].toNat):=ZV _;have HK:Hid (Bytes (wr.setCell ⟨w.heap.size,k,none⟩ (.int .u8 ((jr s[k]).toNat:Int))) w.heap.size s (k+1)):=H1.out.step hlt;have HN:Hid (jr s[k]=s[k]->Bytes wr w.heap.size s (k+1)):=H1.out.stay hlt;have HE:Hid ((jr s[k]).toNat=s[k].toNat->jr s[k]=s[k]):=fun h=>UInt8.toNat_inj.1 h;generalize hn:s[k].toNat=n at *;clear hn;by_cases h65:65<=n
   .by_cases h90:n<=90
    .have akH:(65:Int)<=(n:Int):=by omega
     have aml:(n:Int)<=90:=by omega
     go_wp2_with fail;go_roundg(gk-1);case measure=>omega
     case rel=>
      refine⟨k+1,by omega,by congr 1,?_,H2.out.setCell (Nat.le_refl _) _⟩;have e:=HS.out;rw[if_pos ⟨h65,h90⟩]at e;have:=HK.out;rw[e]at this;first
      |exact this
      |(have e2:((n+32:Nat):Int)=(n:Int)-65+97:=(by omega);rw[e2]at this;exact this)
    .have aml:(90:Int)<(n:Int):=by omega
     have akH:(65:Int)<=(n:Int):=by omega
     go_wp2_with fail;go_roundg(gk-1);case measure=>omega
     case rel=>exact⟨k+1,by omega,by congr 1,HN.out (HE.out (by rw[HS.out,if_neg (by omega)])),H2.out⟩
   .have akH:(n:Int)<65:=by omega
    go_wp2_with fail;go_roundg(gk-1);case measure=>omega
    case rel=>exact⟨k+1,by omega,by congr 1,HN.out (HE.out (by rw[HS.out,if_neg (by omega)])),H2.out⟩
  .have hcv:=H1.out.conv (cap:=cap) (by omega);go_wp2_with fail;go_ret;exact⟨rfl,H2.out⟩
end Go.Proofs.YtlliliddljkbfaaGreat
namespace Go.Proofs.YtlliliddljkbfaaGreat.Sp
section
def cat:List BY->BY
 |[]=>aA
 |a::r=>a++cat r
structure Rule where
 at_:Option BY
 head:List Nd
 body:Option (List Nd)
def bG(stop:Nd->Bool):List Nd->List Nd×Option Nd×List Nd
 |[]=>([],none,[])
 |n::r=>if stop n=true then([],some n,r) else let x:=bG stop r;(n::x.1,x.2)
def aS(n:Nd):Bool:=dN n (b1 59)
def aK(n:Nd):Bool:=dN n (b1 123)
def gV:Option Nd->Option (List Nd)
 |none=>none
 |some b=>if aK b=true then some b.kids else none
def oG(zM:Bool)(n:Nd):Bool:=iH n||(zM&&(decide (n.t.kind=8)||decide (n.t.kind=9)))
def fM:Nat->Bool->List Nd->List Rule
 |0,_,_=>[]
 |_+1,_,[]=>[]
 |f+1,sh,n::r=>
  if oG sh n=true then fM f sh r
  else if n.t.kind=10 then
   let c:=bG (fun m=>aS m||aK m) r
   ⟨some n.t.word,c.1,gV c.2.1⟩::fM f sh c.2.2
  else
   let c:=bG aK (n::r)
   match c.2.1 with
   |none=>[]
   |some b=>⟨none,c.1,some b.kids⟩::fM f sh c.2.2
def rules(sh:Bool)(l:List Nd):List Rule:=fM l.length sh l
structure Dec where
 prop:BY
 val:List Nd
 imp:Bool
def custom(p:BY):Bool:=decide (pk p 0=45)&&decide (pk p 1=45)
def jM(w:BY):BY:=if custom w=true then w else small w
def jw:BY:=⟨#[105,109,112,111,114,116,97,110,116]⟩
def ru(n:Nd)(w:BY):Bool:=decide (n.t.kind=14)&&decide (small n.t.word=w)
def gW(v:List Nd):List Nd×Bool:=
 match v.getLast? with
 |none=>(v,false)
 |some x=>
  if ru x jw=true then
   (match (bare v.dropLast).getLast? with
    |none=>(v,false)
    |some y=>if dN y (b1 33)=true then(bare (bare v.dropLast).dropLast,true) else(v,false))
  else(v,false)
def iI(l:List Nd):Option Dec:=
 match l with
 |[]=>none
 |n::r=>
  if n.t.kind≠14 then none
  else match bare r with
   |[]=>none
   |c::q=>if dN c (b1 58)=true then some ⟨jM n.t.word,(gW (bare q)).1,(gW (bare q)).2⟩ else none
def fF:Nat->List Nd->List Dec
 |0,_=>[]
 |_+1,[]=>[]
 |f+1,n::r=>
  if iH n||aS n then fF f r
  else if n.t.kind=10 then fF f (bG (fun m=>aS m||aK m) r).2.2
  else
   let c:=bG aS (n::r)
   match iI c.1 with
   |none=>fF f c.2.2
   |some d=>d::fF f c.2.2
def decls(l:List Nd):List Dec:=fF l.length l
def hexD(n:Nat):UInt8:=if n<10 then UInt8.ofNat (48+n) else UInt8.ofNat (87+n)
def KU(c:UInt8):BY:=⟨#[92,hexD (c.toNat/16),hexD (c.toNat%16),32]⟩
def oU(c:UInt8):Bool:=(decide (97<=c.toNat)&&decide (c.toNat<=122))||(decide (65<=c.toNat)&&decide (c.toNat<=90))
def oV(c:UInt8):Bool:=decide (48<=c.toNat)&&decide (c.toNat<=57)
def dZ(w:BY)(i:Nat)(c:UInt8):Bool:=
 if oV c=true then !(i==0||(i==1&&pk w 0==45))
 else if c=45 then !(w.size==1)
 else oU c||c==95
def BP(ok:Nat->UInt8->Bool):Nat->List UInt8->BY
 |_,[]=>aA
 |i,c::r=>(if ok i c=true then b1 c else KU c)++BP ok (i+1) r
def dP(w:BY):BY:=BP (dZ w) 0 w.data.toList
def Fe(w:BY):BY:=BP (fun i c=>dZ w i c&&!(i==0&&(c==101||c==69))) 0 w.data.toList
def jO(c:UInt8):Bool:=decide (32<=c.toNat)&&decide (c.toNat<=126)&&!(c==34||c==92||c==60||c==62)
def aiR:BY:=b1 34
def xG(w:BY):BY:=aiR++(BP (fun _ c=>jO c) 0 w.data.toList++aiR)
def xH(c:UInt8):Bool:=oU c||oV c||c==46||c==47||c==58||c==45
def akI:BY:=⟨#[117,114,108,40]⟩
def Hw(w:BY):BY:=akI++(BP (fun _ c=>xH c) 0 w.data.toList++b1 41)
def aib:BY:=⟨#[60,33,45,45]⟩
def ab7:BY:=⟨#[45,45,62]⟩
def aic:BY:=⟨#[34,10]⟩
def aie:BY:=⟨#[117,114,108,40,40,41]⟩
def og:BY:=⟨#[47,42,42,47]⟩
def Yt(w:BY):Bool:=decide (w=b1 44)||decide (w=b1 58)||decide (w=b1 59)||decide (w=b1 41)||decide (w=b1 93)||decide (w=b1 125)
def oH(t:Tok):Bool:=decide (t.kind=1)||(decide (t.kind=15)&&Yt t.word)
def parts(a b:Tok):Bool:=!oH a&&!oH b&&decide (closing a=aA)&&!au b (b1 91)&&!au b (b1 123)
def Qy(t:Tok)(inn:BY):BY:=
 if t.kind=1 then b1 32
 else if t.kind=2 then xG t.word
 else if t.kind=3 then aic
 else if t.kind=4 then b1 35++dP t.word
 else if t.kind=6 then t.word++b1 37
 else if t.kind=7 then t.word++Fe t.unit
 else if t.kind=8 then aib
 else if t.kind=9 then ab7
 else if t.kind=10 then b1 64++dP t.word
 else if t.kind=11 then dP t.word++(b1 40++(inn++b1 41))
 else if t.kind=12 then Hw t.word
 else if t.kind=13 then aie
 else if t.kind=14 then dP t.word
 else if t.kind=15 then t.word++(inn++closing t)
 else t.word
def Aj(a:Option Tok)(b:Tok):BY:=match a with|none=>aA|some a=>if parts a b=true then og else aA
def Ak(a:Option Tok)(b:Tok):Bool:=match a with|none=>false|some a=>decide (a.kind=1)&&decide (b.kind=1)
mutual
def iM:Nd->BY
 |.mk t k=>Qy t (l9 none k)
def l9:Option Tok->List Nd->BY
 |_,[]=>aA
 |a,n::r=>(if Ak a n.t=true then aA else Aj a n.t++iM n)++l9 (some n.t) r
end
def written(l:List Nd):BY:=l9 none l
structure Wt where
 a:Nat
 b:Nat
 c:Nat
def Wt.zero:Wt:=⟨0,0,0⟩
def Wt.add(x y:Wt):Wt:=⟨x.a+y.a,x.b+y.b,x.c+y.c⟩
def Wt.less(x y:Wt):Bool:=if x.a≠y.a then decide (x.a<y.a) else if x.b≠y.b then decide (x.b<y.b) else decide (x.c<y.c)
def Wt.most(x y:Wt):Wt:=if x.less y=true then y else x
mutual
def wtS:Simple->Wt
 |.mk kind name _ _ list _=>
  if kind=35 then⟨1,0,0⟩
  else if kind=116 then(if name=aA then Wt.zero else⟨0,0,1⟩)
  else if kind=58/\(name=nD\/name=DY) then wtL Wt.zero list
  else⟨0,1,0⟩
def wtA:List Simple->Wt
 |[]=>Wt.zero
 |s::r=>(wtS s).add (wtA r)
def wtT:Nat×List Simple->Wt
 |(_,all)=>wtA all
def wtC:List (Nat×List Simple)->Wt
 |[]=>Wt.zero
 |t::r=>(wtT t).add (wtC r)
def wtL:Wt->List (List (Nat×List Simple))->Wt
 |best,[]=>best
 |best,c::r=>wtL (best.most (wtC c)) r
end
abbrev akJ:=bY×List Dec
structure jS where
 imp:Bool
 wt:Wt
 val:List Nd
def amm:BY:=⟨#[118,97,114]⟩
def jU:BY:=⟨#[105,110,104,101,114,105,116]⟩
def lN:BY:=⟨#[117,110,115,101,116]⟩
def nInitial:BY:=⟨#[105,110,105,116,105,97,108]⟩
def ab8:BY:=⟨#[99,111,108,111,114]⟩
def aif:BY:=⟨#[102,111,110,116,45,115,105,122,101]⟩
def Yu:BY:=⟨#[113,117,111,116,101,115]⟩
def isWord(v:List Nd)(w:BY):Bool:=match v with|[n]=>ru n w|_=>false
mutual
def Qz(g:Tok->Bool):Nd->Bool
 |.mk t k=>g t||jg g k
def jg(g:Tok->Bool):List Nd->Bool
 |[]=>false
 |n::r=>Qz g n||jg g r
end
def zB(t:Tok):Bool:=decide (t.kind=3)||decide (t.kind=13)
def kD(t:Tok):Bool:=decide (t.kind=11)&&decide (small t.word=amm)
def handed(q:BY):Bool:=custom q||decide (q=ab8)||decide (q=aif)||decide (q=Yu)
def tC(h:Nd->Option Nd):List Nd->Option (List Nd)
 |[]=>some []
 |n::r=>match h n with|none=>none|some m=>(tC h r).map (fun x=>m::x)
section
variable (p:aI) (rs:List akJ)
end
def bH(s:BY):List Nd:=nodes (toks (clean s))
structure aF where
 root:BY
 props:List BY
 aJ:List BY
 ats:List BY
 aU:Bool
 texts:Bool
def jh(c:UInt8):Bool:=decide (97<=c.toNat)&&decide (c.toNat<=122)
def gK(s:BY):Bool:=s.data.toList.all (fun c=>jh c||c==45)&&decide (1<=s.size)&&decide (s.size<=30)
def qp(p:aF):Bool:=
 p.root.data.toList.all jh&&decide (p.root.size<=12) &&
 (decide (p.props.length<=20)&&p.props.all (fun s=>gK s&&!(pk s 0==45))) &&
 (decide (p.aJ.length<=20)&&p.aJ.all gK)&&(decide (p.ats.length<=20)&&p.ats.all gK)
def vk(w:BY):Bool:=decide (w=b1 43)||decide (w=b1 45)||decide (w=b1 42)||decide (w=b1 47)||decide (w=b1 46)||decide (w=b1 44)||decide (w=b1 37)||decide (w=b1 61)||decide (w=b1 58)
def oI(p:aF)(t:Tok):Bool:=
 if t.kind=3\/t.kind=12\/t.kind=13\/t.kind=10\/t.kind=8\/t.kind=9 then false
 else if t.kind=15 then !decide (closing t=aA)||vk t.word
 else if t.kind=2 then p.texts
 else if t.kind=11 then p.aJ.contains (small t.word)
 else true
def eH(p:aF)(l:List Nd):Bool:=!jg (fun t=>!oI p t) l
structure ZW where
 dO:Nat->BY
 pos:∀n,n<=1000->0<(dO n).size
 sz:∀n,n<=1000->(dO n).size<=100
 mW:∀n,n<=999->∀c∈(dO n).data.toList,fG (c.toNat:Int)=true
abbrev bV:=Inhabited ZW
def H7[bV](n:Nat):BY:=(default:ZW).dO n
def tV(b:Nat):BY:=if b=32 then b1 32 else if b=62\/b=43\/b=126 then b1 32++(b1 (UInt8.ofNat b)++b1 32) else aA
def zN(name how value:BY):BY:=if how=aA then b1 91++(dP name++b1 93) else b1 91++(dP name++(how++(xG value++b1 93)))
mutual
def Am[bV]:Simple->BY
 |.mk kind name how value list place=>
  if kind=116 then(if name=aA then b1 42 else dP name)
  else if kind=35 then b1 35++dP name
  else if kind=46 then b1 46++dP name
  else if kind=91 then zN name how value
  else if name=nD\/name=DY then b1 58++(name++(b1 40++(jV aA list++b1 41)))
  else if name=nG then b1 58++(name++(b1 40++((if place=0 then sZ else if place=1 then l7 else H7 (place-2))++b1 41)))
  else b1 58++name
def vw[bV]:List Simple->BY
 |[]=>aA
 |s::r=>Am s++vw r
def ab9[bV]:Nat×List Simple->BY
 |(b,all)=>tV b++vw all
def dW[bV]:List (Nat×List Simple)->BY
 |[]=>aA
 |t::r=>ab9 t++dW r
def jV[bV](ahead:BY):List (List (Nat×List Simple))->BY
 |[]=>aA
 |c::r=>ahead++(dW c++qC ahead r)
def qC[bV](ahead:BY):List (List (Nat×List Simple))->BY
 |[]=>aA
 |c::r=>b1 44++(ahead++(dW c++qC ahead r))
end
def ZX:BY:=⟨#[33,105,109,112,111,114,116,97,110,116]⟩
def kR(p:aF)(d:Dec):Bool:=(if custom d.prop=true then p.aU else p.props.contains d.prop)&&eH p d.val&&!d.val.isEmpty
def jW(d:Dec):BY:=dP d.prop++(b1 58++(written d.val++(if d.imp=true then ZX else aA)))
def jX(sep:BY):List BY->BY
 |[]=>aA
 |[a]=>a
 |a::b::r=>a++(sep++jX sep (b::r))
def tX(p:aF)(l:List Nd):BY:=jX (b1 59) (((decls l).filter (kR p)).map jW)
def Vw(p:aF):BY:=if p.root=aA then aA else b1 46++(p.root++b1 32)
def H8[bV](p:aF)(r:Rule)(b:List Nd):BY:=
 match Ot r.head with
 |none=>aA
 |some s=>if tX p b=aA then aA else jV (Vw p) s++(b1 123++(tX p b++b1 125))
def qE(h:List Nd):BY:=if h=[] then aA else b1 32++written h
def H9[bV](p:aF)(rec:List Nd->BY)(r:Rule):BY:=
 match r.at_,r.body with
 |some w,some b=>
  if p.ats.contains (small w)=true/\eH p (bare r.head)=true then
   (if rec b=aA then aA else b1 64++(dP (small w)++(qE (bare r.head)++(b1 123++(rec b++b1 125)))))
  else aA
 |none,some b=>H8 p r b
 |_,none=>aA
def tY[bV](p:aF):Nat->Bool->List Nd->BY
 |0,sh,l=>cat ((rules sh l).map (H9 p (fun _=>aA)))
 |f+1,sh,l=>cat ((rules sh l).map (H9 p (tY p f false)))
def dR[bV](s:BY)(p:aF):BY×Int:=
 if qp p=false then(aA,5)
 else if 600<s.size then(aA,1)
 else if 8<depth (bH s) then(aA,2)
 else(tY p (depth (bH s)) true (bH s),0)
end
end Go.Proofs.YtlliliddljkbfaaGreat.Sp
namespace Go.Proofs.YtlliliddljkbfaaGreat.Sp
open Go
def pre(s:BY):Nat->List UInt8->Bool
 |_,[]=>true
 |i,a::r=>pk s i==(a.toNat:Int)&&pre s (i+1) r
theorem drop_cons{s:BY}{i:Nat}(h:i<s.size):s.data.toList.drop i=s[i]::s.data.toList.drop (i+1):=by rw[List.drop_eq_getElem_cons (by simpa using h)];rfl
theorem afS(a b:UInt8):((a.toNat:Int)==(b.toNat:Int))=(b==a):=by
 rw[Bool.eq_iff_iff];simp only[beq_iff_eq];constructor
 .intro h;exact(UInt8.toNat_inj.1 AF).symm
 .intro h;rw[h]
theorem xI(s:BY):∀(l:List UInt8) (i:Nat),l.isPrefixOf (s.data.toList.drop i)=pre s i l
 |[],i=>by simp[pre]
 |a::r,i=>by
  by_cases h:i<s.size
  .rw[drop_cons h,List.isPrefixOf,xI s r (i+1),pre,zK h,afS]
  .have:s.data.toList.drop i=[]:=List.drop_eq_nil_of_le (by simpa using h);rw[this,pre,oK (by omega)];have:((-1:Int)==(a.toNat:Int))=false:=by rw[beq_eq_false_iff_ne];omega
   rw[this];simp
theorem afT(s:BY)(i:Nat)(l:BY):Lib.hasPrefix (s.extract i s.size).data.toList l.data.toList=pre s i l.data.toList:=by rw[Lib.extract_to_end,Lib.hasPrefix,xI]
theorem Fg(s:BY):∀f k,s.size<=k+f->k<=s.size->Lib.index (s.data.toList.drop k) [42,47]=if lY s f k<s.size then((lY s f k:Nat):Int)-k else -1
 |0,k,h,h'=>by have:s.data.toList.drop k=[]:=List.drop_eq_nil_of_le (by simp;exact h);rw[this,lY,if_neg (by omega)];rfl
 |f+1,k,h,h'=>by
  by_cases hk:k<s.size
  .have hp:([42,47]:List UInt8).isPrefixOf (s[k]::s.data.toList.drop (k+1))=(pk s k==42&&pk s (k+1)==47):=by
    rw[<-drop_cons hk,xI];simp[pre]
   rw[drop_cons hk,Lib.index,hp];by_cases hs:pk s k=42/\pk s (k+1)=47
   .have e1:lY s (f+1) k=k:=by unfold lY;rw[if_neg (fun h=>h.2 hs)]
    have e2:(pk s k==42&&pk s (k+1)==47)=true:=by simp[hs]
    rw[e1,e2,if_pos rfl,if_pos hk];omega
   .have e1:lY s (f+1) k=lY s f (k+1):=by
     conv=>lhs;unfold lY
     rw[if_pos ⟨hk,hs⟩]
    have e2:(pk s k==42&&pk s (k+1)==47)=false:=by rw[Bool.eq_false_iff];intro h;exact hs (by simpa using h)
    have hge:=BF s f (k+1);rw[e1,e2,if_neg (by simp),Fg s f (k+1) (by omega) (by omega)];by_cases h2:lY s f (k+1)<s.size
    .rw[if_pos h2,if_pos h2,if_neg (by rw[beq_iff_eq];omega)];omega
    .rw[if_neg h2,if_neg h2,if_pos (by rfl)]
  .have hd:s.data.toList.drop k=[]:=List.drop_eq_nil_of_le (by simp;omega);have hge:=BF s (f+1) k;rw[hd,if_neg (by omega)];rfl
theorem Ia{s:BY}{k:Nat}(h:k<=s.size):Lib.index (s.extract k s.size).data.toList [42,47]=if star s k<s.size then((star s k:Nat):Int)-k else -1:=by rw[Lib.extract_to_end];exact Fg s s.size k AF h
theorem KW{s:BY}{k:Nat}(h:k<=s.size)(h':star s k<s.size):Lib.index (s.extract k s.size).data.toList [42,47]=((star s k:Nat):Int)-k:=by rw[Ia h,if_pos h']
theorem Ib{s:BY}{k:Nat}(h:k<=s.size)(h':s.size<=star s k):Lib.index (s.extract k s.size).data.toList [42,47] = -1:=by rw[Ia h,if_neg (by omega)]
end Go.Proofs.YtlliliddljkbfaaGreat.Sp
namespace Go.Proofs.YtlliliddljkbfaaGreat
open Go.Proofs.Tryz (prog)
open Go.RowKit Sp
def a0(s:BY)(k:Nat):Int:=if k<s.size then pk s k else 0
