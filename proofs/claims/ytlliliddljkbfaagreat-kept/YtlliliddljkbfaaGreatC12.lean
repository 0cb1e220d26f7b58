import Derived.Test.YtlliliddljkbfaaGreatC11
set_option maxHeartbeats 64000000
set_option maxRecDepth 100000
namespace Go.Proofs.YtlliliddljkbfaaGreat.Sp
section
structure XI(t s:BY)(n:Nat):Prop where
 sz:t.size=n+s.size
 at_:∀i,pk t (n+i)=pk s i
 ex:∀i j,t.extract (n+i) (n+j)=s.extract i j
def up{α:Type}(n:Nat)(r:α×Nat):α×Nat:=(r.1,n+r.2)
theorem aoe{α:Type}(n:Nat)(a:α)(k:Nat):up n (a,k)=(a,n+k):=rfl
theorem aor{α:Type}(n:Nat)(r:α×Nat):(up n r).1=r.1:=rfl
theorem aol{α:Type}(n:Nat)(r:α×Nat):(up n r).2=n+r.2:=rfl
theorem anL{α:Type}(n:Nat)(c:Prop)[Decidable c](a b:α×Nat):up n (if c then a else b)=if c then up n a else up n b:=apply_ite _ _ _ _
theorem PZ(n:Nat)(c:Prop)[Decidable c](a b:Nat):n+(if c then a else b)=if c then n+a else n+b:=apply_ite _ _ _ _
theorem XI.of(a y:BY):XI (a++y) y a.size:=by
 refine⟨ByteArray.size_append,fun i=>?_,fun i j=>ByteArray.extract_append_size_add⟩;have e:(a++y).size=a.size+y.size:=ByteArray.size_append;by_cases h:i<y.size
 .rw[zK h,zK (by omega),ByteArray.getElem_append_right (by omega)];simp
 .rw[oK (by omega),oK (by omega)]
variable {t s:BY} {n:Nat}
theorem XI.one(h:XI t s n)(i:Nat):one t (n+i)=one s i:=by unfold Sp.one;rw[Nat.add_assoc];exact h.ex _ _
theorem an3{i:Nat}(h:s.size<=i):lX (pk s i)=false/\kY s i=false/\aO (pk s i)=false/\fG (pk s i)=false:=by unfold kY;rw[oK h];exact⟨rfl,rfl,rfl,rfl⟩
theorem anP(h:XI t s n)(i:Nat):kY t (n+i)=kY s i:=by unfold kY;simp only[Nat.add_assoc,h.at_]
theorem apa(h:XI t s n)(i:Nat):jT t (n+i)=jT s i:=by unfold jT;simp only[h.at_,anP h]
theorem aoL(h:XI t s n)(i:Nat):iG t (n+i)=iG s i:=by unfold iG;simp only[Nat.add_assoc,h.at_,anP h]
theorem aoM(h:XI t s n):∀f i m,tJ t f (n+i) m=up n (tJ s f i m)
 |0,_,_=>rfl
 |f+1,i,m=>by unfold tJ;rw[h.at_,Nat.add_assoc,aoM h f,anL];rfl
theorem aom(h:XI t s n)(i:Nat):esc t (n+i)=up n (esc s i):=by unfold esc;simp only[Nat.add_assoc,aoM h,aor,aol,h.at_,h.one,anL,aoe,h.sz,PZ,Nat.add_left_cancel_iff,Nat.add_lt_add_iff_left]
theorem an4{i:Nat}(h:lX (pk s i)=false)(h2:kY s i=false):∀f acc,iK s f i acc=(acc,i)
 |0,_=>rfl
 |f+1,_=>by unfold iK;rw[if_neg (by simp[h]),if_neg (by simp[h2])]
theorem aof(h:XI t s n){i:Nat}(hi:s.size<=i)(f g:Nat)(acc:BY):iK t g (n+i) acc=up n (iK s f i acc):=by have e:=an3 hi;rw[an4 e.1 e.2.1,an4 (by rw[h.at_];exact e.1) (by rw[anP h];exact e.2.1)];rfl
theorem an5(h:XI t s n):∀f g i acc,s.size<=i+f->s.size<=i+g->iK t g (n+i) acc=up n (iK s f i acc)
 |0,g,i,acc,hf,_=>aof h AE _ _ _
 |f+1,0,i,acc,_,hg=>aof h AE _ _ _
 |f+1,g+1,i,acc,hf,hg=>by have he:=oL s i;unfold iK;rw[h.at_,h.one,anP h,aom h,aor,aol,Nat.add_assoc,an5 h f g (i+1) _ (by omega) (by omega),an5 h f g (esc s i).2 _ (by omega) (by omega),anL,anL];rfl
theorem aon(h:XI t s n)(i:Nat):name t (n+i)=up n (name s i):=an5 h _ _ _ _ AE (by have:=h.sz;omega)
theorem anQ{i:Nat}(h:aO (pk s i)=false):∀f,Ae s f i=i
 |0=>rfl
 |f+1=>by unfold Ae;rw[if_neg (by simp[h])]
theorem aoN(h:XI t s n):∀f g i,s.size<=i+f->s.size<=i+g->Ae t g (n+i)=n+Ae s f i
 |0,g,i,hf,_=>by have e:=(an3 (s:=s) (i:=i) AE).2.2.1;rw[anQ e,anQ (by rw[h.at_];exact e)]
 |f+1,0,i,_,hg=>by have e:=(an3 (s:=s) (i:=i) AE).2.2.1;rw[anQ e,anQ (by rw[h.at_];exact e)]
 |f+1,g+1,i,hf,hg=>by unfold Ae;rw[h.at_,Nat.add_assoc,aoN h f g (i+1) (by omega) (by omega),PZ]
theorem aoB(h:XI t s n)(i:Nat):blk t (n+i)=n+blk s i:=aoN h _ _ _ AE (by have:=h.sz;omega)
theorem anR{i:Nat}(h:fG (pk s i)=false):∀f,wU s f i=i
 |0=>rfl
 |f+1=>by unfold wU;rw[if_neg (by simp[h])]
theorem aoO(h:XI t s n):∀f g i,s.size<=i+f->s.size<=i+g->wU t g (n+i)=n+wU s f i
 |0,g,i,hf,_=>by have e:=(an3 (s:=s) (i:=i) AE).2.2.2;rw[anR e,anR (by rw[h.at_];exact e)]
 |f+1,0,i,_,hg=>by have e:=(an3 (s:=s) (i:=i) AE).2.2.2;rw[anR e,anR (by rw[h.at_];exact e)]
 |f+1,g+1,i,hf,hg=>by unfold wU;rw[h.at_,Nat.add_assoc,aoO h f g (i+1) (by omega) (by omega),PZ]
theorem aoC(h:XI t s n)(i:Nat):mW t (n+i)=n+mW s i:=aoO h _ _ _ AE (by have:=h.sz;omega)
theorem aoD(h:XI t s n)(i:Nat):mX t (n+i)=n+mX s i:=by unfold mX;rw[h.at_,Nat.add_assoc,PZ]
theorem apu(h:XI t s n)(i:Nat):iO t (n+i)=iO s i:=by unfold iO;simp only[aoD h,Nat.add_assoc,h.at_]
theorem apv(h:XI t s n)(k:Nat):iq t (n+k)=n+iq s k:=by unfold iq;simp only[Nat.add_assoc,h.at_,aoD h,aoC h,PZ]
theorem apb(h:XI t s n)(k:Nat):jL t (n+k)=n+jL s k:=by unfold jL;simp only[Nat.add_assoc,h.at_,aoC h,PZ]
theorem apw(h:XI t s n)(i:Nat):bT t (n+i)=n+bT s i:=by unfold bT;rw[aoD h,aoC h,apb h,apv h]
theorem anM{k:Nat}(h:s.size<=k):∀f,lY s f k=k
 |0=>rfl
 |f+1=>by unfold lY;rw[if_neg (by omega)]
theorem aos(h:XI t s n):∀f g k,s.size<=k+f->s.size<=k+g->lY t g (n+k)=n+lY s f k
 |0,g,k,hf,_=>by rw[anM (s:=s) (by omega),anM (by have:=h.sz;omega)]
 |f+1,0,k,_,hg=>by rw[anM (s:=s) (by omega),anM (by have:=h.sz;omega)]
 |f+1,g+1,k,hf,hg=>by unfold lY;simp only[h.sz,Nat.add_assoc,h.at_,Nat.add_lt_add_iff_left,PZ];rw[aos h f g (k+1) (by omega) (by omega)]
theorem apx(h:XI t s n)(k:Nat):star t (n+k)=n+star s k:=aos h _ _ _ AE (by have:=h.sz;omega)
theorem anS{i:Nat}(h:s.size<=i):∀f,Bv s f i=i
 |0=>rfl
 |f+1=>by unfold Bv;rw[if_neg (by rw[oK h];simp)]
theorem aoP(h:XI t s n):∀f g i,s.size<=i+f->s.size<=i+g->Bv t g (n+i)=n+Bv s f i
 |0,g,i,hf,_=>by rw[anS (s:=s) (by omega),anS (by have:=h.sz;omega)]
 |f+1,0,i,_,hg=>by rw[anS (s:=s) (by omega),anS (by have:=h.sz;omega)]
 |f+1,g+1,i,hf,hg=>by have hs:=Ol s (i+2);unfold Bv;simp only[h.sz,Nat.add_assoc,h.at_,apx h,Nat.add_le_add_iff_left,PZ];rw[aoP h f g (star s (i+2)+2) (by omega) (by omega)]
theorem apc(h:XI t s n)(i:Nat):com t (n+i)=n+com s i:=aoP h _ _ _ AE (by have:=h.sz;omega)
theorem anT{i:Nat}(h:s.size<=i)(q:Int)(acc:BY):∀f,lK s q f i acc=(Tok.w 2 acc,i)
 |0=>rfl
 |f+1=>by unfold lK;rw[if_pos h]
theorem anW(h:XI t s n)(q:Int):∀f g i acc,s.size<=i+f->s.size<=i+g->lK t q g (n+i) acc=up n (lK s q f i acc)
 |0,g,i,acc,hf,_=>by rw[anT (s:=s) (by omega),anT (by have:=h.sz;omega)];rfl
 |f+1,0,i,acc,_,hg=>by rw[anT (s:=s) (by omega),anT (by have:=h.sz;omega)];rfl
 |f+1,g+1,i,acc,hf,hg=>by have he:=oL s i;unfold lK;simp only[h.sz,Nat.add_assoc,h.at_,h.one,aom h,aor,aol,Nat.add_le_add_iff_left];rw[anW h q f g (i+1) _ (by omega) (by omega),anW h q f g (i+1) _ (by omega) (by omega),anW h q f g (i+2) _ (by omega) (by omega),anW h q f g (esc s i).2 _ (by omega) (by omega)];simp only[anL,aoe]
theorem apP(h:XI t s n)(q:Int)(i:Nat):txt t q (n+i)=up n (txt s q i):=anW h _ _ _ _ _ AE (by have:=h.sz;omega)
theorem anU{i:Nat}(h:s.size<=i):∀f,Ed s f i=i
 |0=>rfl
 |f+1=>by unfold Ed;rw[if_pos h]
theorem aoo(h:XI t s n):∀f g i,s.size<=i+f->s.size<=i+g->Ed t g (n+i)=n+Ed s f i
 |0,g,i,hf,_=>by rw[anU (s:=s) (by omega),anU (by have:=h.sz;omega)]
 |f+1,0,i,_,hg=>by rw[anU (s:=s) (by omega),anU (by have:=h.sz;omega)]
 |f+1,g+1,i,hf,hg=>by have he:=oL s i;unfold Ed;simp only[h.sz,Nat.add_assoc,h.at_,anP h,aom h,aol,Nat.add_le_add_iff_left];rw[aoo h f g (i+1) (by omega) (by omega),aoo h f g (esc s i).2 (by omega) (by omega)];simp only[PZ]
theorem apQ(h:XI t s n)(i:Nat):bad t (n+i)=n+bad s i:=aoo h _ _ _ AE (by have:=h.sz;omega)
theorem anN{i:Nat}(h:s.size<=i)(acc:BY):∀f,jd s f i acc=(Tok.w 12 acc,i)
 |0=>rfl
 |f+1=>by unfold jd;rw[if_pos h]
theorem an6(h:XI t s n):∀f g i acc,s.size<=i+f->s.size<=i+g->jd t g (n+i) acc=up n (jd s f i acc)
 |0,g,i,acc,hf,_=>by rw[anN (s:=s) (by omega),anN (by have:=h.sz;omega)];rfl
 |f+1,0,i,acc,_,hg=>by rw[anN (s:=s) (by omega),anN (by have:=h.sz;omega)];rfl
 |f+1,g+1,i,acc,hf,hg=>by have he:=oL s i;unfold jd;simp only[h.sz,Nat.add_assoc,h.at_,h.one,anP h,aom h,aoB h,apQ h,aor,aol,Nat.add_le_add_iff_left];rw[an6 h f g (i+1) _ (by omega) (by omega),an6 h f g (esc s i).2 _ (by omega) (by omega)];simp only[anL,aoe]
theorem apy(h:XI t s n)(i:Nat):link t (n+i)=up n (link s i):=an6 h _ _ _ _ AE (by have:=h.sz;omega)
theorem aoE(h:XI t s n)(i:Nat):numeric t (n+i)=up n (numeric s i):=by unfold numeric;simp only[apw h,Nat.add_assoc,h.at_,h.ex,aoL h,aon h,aor,aol,anL,aoe]
theorem apd(h:XI t s n)(i:Nat):named t (n+i)=up n (named s i):=by unfold named;simp only[Nat.add_assoc,h.at_,aon h,aoB h,apy h,aor,aol,anL,aoe]
theorem ape(h:XI t s n)(i:Nat):token t (n+i)=up n (token s i):=by unfold token kG kL;simp only[Nat.add_assoc,h.at_,h.one,aon h,aoB h,apP h,apa h,apu h,aoE h,aoL h,apd h,aor,aol,anL,aoe]
theorem P5{i:Nat}(h:s.size<=i):∀f,tokF s f i=[]
 |0=>rfl
 |f+1=>by unfold tokF;rw[if_pos h]
theorem aoQ(h:XI t s n):∀f g i,s.size<=i+f->s.size<=i+g->tokF t g (n+i)=tokF s f i
 |0,g,i,hf,_=>by rw[P5 (s:=s) (by omega),P5 (by have:=h.sz;omega)]
 |f+1,0,i,_,hg=>by rw[P5 (s:=s) (by omega),P5 (by have:=h.sz;omega)]
 |f+1,g+1,i,hf,hg=>by
  by_cases hi:i<s.size
  .have h1:=xA hi;have h2:=Vq (xB hi);unfold tokF;rw[if_neg (by have:=h.sz;omega),if_neg (by omega),ape h,aor,aol,apc h,aoQ h f g _ AE AE]
  .rw[P5 (s:=s) (by omega),P5 (by have:=h.sz;omega)]
theorem apz(h:XI t s n){f:Nat}(hf:s.size<=f):tokF t f (com t n)=toks s:=by have e:=apc h 0;rw[Nat.add_zero]at e;rw[e];exact aoQ h _ _ _ AE AE
theorem apR(h:XI t s n)(hg:∀i (h1:n+i<t.size) (h2:i<s.size),t[n+i]=s[i])(i:Nat):ZO t (n+i)=ZO s i:=by
 unfold ZO;have:=h.sz;by_cases hi:i<s.size
 .rw[dif_pos hi,dif_pos (by omega),hg i (by omega) hi,Nat.add_assoc,h.at_]
 .rw[dif_neg hi,dif_neg (by omega)]
theorem aoW{o y:BY}(h:∀c∈o.data.toList,32<=c.toNat):clean (o++y)=o++clean y:=by
 have hsz:(o++y).size=o.size+y.size:=ByteArray.size_append;have hc:∀k,k<=o.size->bC (o++y) k=o.data.toList.take k:=by
  intro k;induction k with
  |zero=>intro _;simp[bC]
  |succ k ih=>
   intro hk;have hk':k<o.data.toList.length:=by show k<o.data.size;exact hk
   have hm:o.data.toList[k]∈o.data.toList:=List.getElem_mem _;have hb:=h _ hm;have e1:(o++y)[k]'(by omega)=o.data.toList[k]:=by rw[ByteArray.getElem_append_left (by omega)];rfl
   have e:ZO (o++y) k=[o.data.toList[k]]:=by
    unfold ZO;rw[dif_pos (by omega),e1];generalize o.data.toList[k]=c at hb;have n1:c≠13:=by rintro rfl;revert hb;decide
    have n2:c≠12:=by rintro rfl;revert hb;decide
    have n3:c≠0:=by rintro rfl;revert hb;decide
    simp[n1,n2,n3]
   show bC (o++y) k++ZO (o++y) k=_;rw[ih (by omega),e,List.take_succ_eq_append_getElem hk']
 have hd:∀k,bC (o++y) (o.size+k)=o.data.toList++bC y k:=by
  intro k;induction k with
  |zero=>rw[Nat.add_zero,hc _ (Nat.le_refl _)];have:o.data.toList.take o.size=o.data.toList:=List.take_of_length_le (Nat.le_refl _);rw[this];simp[bC]
  |succ k ih=>show bC (o++y) (o.size+k)++ZO (o++y) (o.size+k)=o.data.toList++(bC y k++ZO y k);rw[ih,apR (XI.of o y) (fun i h1 h2=>by rw[ByteArray.getElem_append_right (by omega)];simp),List.append_assoc]
 apply ByteArray.ext
 apply Array.toList_inj.1
 rw[show(o++clean y).data.toList=o.data.toList++(clean y).data.toList by simp];show(bC (o++y) (o++y).size)=o.data.toList++bC y y.size;rw[hsz,hd]
end
end Go.Proofs.YtlliliddljkbfaaGreat.Sp
namespace Go.Proofs.YtlliliddljkbfaaGreat
open Go.Proofs.Tryz (prog)
open Go.RowKit Sp
section
theorem an7{s:BY}:∀(l:List Pc) (X:List UInt8) (i f:Nat),At s i (flat l++X)->Sp.Good l X->(flat l).length+X.length<=f->∃g,X.length<=g/\tokF s f (com s i)=dA l++tokF s g (com s (i+(flat l).length))
 |[],X,i,f,_,_,hf=>⟨f,by simpa[flat]using hf,by simp[flat,dA]⟩
 |p::l,X,i,f,h,hg,hf=>by
  have h0:At s i (p.bytes++(flat l++X)):=by have:=h;rw[show flat (p::l)=p.bytes++flat l from rfl,List.append_assoc]at this;exact this
  obtain⟨g1,g2,g3⟩:=hg;have hpos:=Pc.pos g1;have hlen:(flat (p::l)).length=p.bytes.length+(flat l).length:=List.length_append;rw[hlen]at hf;by_cases hp:p=.com
  .subst hp;have h1:At s (i+4) (flat l++X):=h0.app;have e:com s (i+4)=i+4:=kW fun hh=>g2 ⟨by rw[<-h1.hd];exact hh.1,by rw[<-YZ h1 (by rw[hh.1];decide)];exact hh.2⟩;obtain⟨g,hg,ih⟩:=an7 l X (i+4) f h1 g3 oo;rw[e]at ih;refine⟨g,hg,?_⟩;rw[ads h0 g2,ih,hlen,<-Nat.add_assoc];rfl
  .obtain⟨t,ht,hsc,hcm⟩:=Xd g1 g2 hp h0;obtain⟨f,rfl⟩:∃g,f=g+1:=⟨f-1,oo⟩;have hsz:=h0.size;obtain⟨g,hg,ih⟩:=an7 l X (i+p.bytes.length) f h0.app g3 oo;refine⟨g,hg,?_⟩;rw[hcm,show tokF s (f+1) i=(if s.size<=i then [] else(token s i).1::tokF s f (com s (token s i).2)) from rfl,if_neg (by rw[List.length_append]at hsz;omega),hsc];show t::tokF s f (com s (i+p.bytes.length))=_;rw[ih,hlen,<-Nat.add_assoc];unfold dA;rw[List.filterMap_cons,ht];rfl
theorem apf{o:BY}{ps:List Pc}{ns:List Nd}{rs:List Rule}(h1:o.data.toList=flat ps)(h2:∀X,Sp.Good ps X)(h3:sJ (dA ps) ns)(h5:∀rest,rules true (ns++rest)=rs++rules true rest)(hb:∀c∈o.data.toList,32<=c.toNat)(y:BY):bH (o++y)=ns++bH y/\KR (o++y)=rs++KR y:=by
 have hk:bH (o++y)=ns++bH y:=by
  have hl:(flat ps).length=o.size:=by rw[<-h1];rfl
  have ha:At (o++Sp.clean y) 0 (flat ps++(Sp.clean y).data.toList):=by have:=At.zero (o++Sp.clean y);rw[kV,h1]at this;exact this
  have hy:(Sp.clean y).data.toList.length=(Sp.clean y).size:=rfl;obtain⟨g,hg,e⟩:=an7 ps _ 0 (o++Sp.clean y).size ha (h2 _) (by rw[hl,ByteArray.size_append,hy];omega);have ht:toks (o++Sp.clean y)=dA ps++toks (Sp.clean y):=by
   rw[show toks (o++Sp.clean y)=tokF (o++Sp.clean y) (o++Sp.clean y).size (com (o++Sp.clean y) 0) from rfl,e,Nat.zero_add,hl];congr 1
   exact apz (XI.of o (Sp.clean y)) (by rw[hy]at hg;exact hg)
  unfold bH;rw[aoW hb,ht];unfold nodes;rw[h3 aA _ (fun h=>absurd rfl h)]
 refine⟨hk,?_⟩;unfold KR;rw[hk,h5]
section
variable [bV] (F:lI) (p:aI) (s1 s2:BY) (p1 p2:aF) (y:BY)
end
end
theorem apg{ts:List Tok}{ns:List Nd}(h:sJ ts ns):ns=nodes ts:=by have:=h aA [] (fun h=>absurd rfl h);rw[List.append_nil]at this;unfold nodes;rw[this];simp[jB]
def aoR[bV](p:aF)(s:bY):List Nd:=nodes (dA (Vh (rW p) s))
theorem aoF[bV]{p:aF}(hr:p.root.data.toList.all jh=true){r:Rule}{b:List Nd}{s:bY}(hh:gL r.head)(hg:gL b)(hu:uL b)(hs:Ot r.head=some s)(hb:tX p b≠aA)
  (hp:∀c∈(H8 p r b).data.toList,32<=c.toNat) (y:BY):bH (H8 p r b++y)=(aoR p s++[.mk (Tok.w 15 (b1 123)) (nodes (toks (tX p b)))])++bH y/\KR (H8 p r b++y)=[⟨none,aoR p s,some (nodes (toks (tX p b)))⟩]++KR y:=by
 have eo:H8 p r b=jV (Vw p) s++(b1 123++(tX p b++b1 125)):=by unfold H8;rw[hs];exact if_neg hb
 rw[eo]at hp⊢;have hsf:=Y6 _ _ _ (Sm _ hh) hs;obtain⟨xs,hl,hnd,hsel⟩:=aj0 (rW p) (kF p) (abm hr) s (depth r.head) hsf (aen _ _ _ _ hs nl);obtain⟨pb,b1',b2',nb,b3,b4,b5⟩:=aho (D:=depth b) (p:=p) hg hu nl;have hbn:∀n∈nb,au n.t (b1 125)=false:=fun n hn=>(b4 n hn).no Ab;have htop:=aex (kF p) (XH p) xs hsel;have hgood:∀X,Sp.Good (Vh (rW p) s++(.sign 123::(pb++[.sign 125]))) X:=by
  intro X;refine Sp.Good.append (air (rW p) (Xt p) ?_ s _ hsf (show iw 123 by unfold iw;decide)) ?_
  .unfold rW;split
   .exact .inl rfl
   .exact .inr fun _=>rfl
  .exact fK Ab (Sp.Good.append (b:=[.sign 125]) (b2' (flat [.sign 125]++X) ⟨rfl,show(125:Int)≠32 by decide⟩) (fK Ab trivial))
 have e1:pI (kF p) xs=aoR p s:=apg hnd;have et:toks (tX p b)=dA pb:=EI pb 0 (tX p b).size (by rw[<-b1'];exact At.zero _) (b2' [] ⟨rfl,show(-1:Int)≠32 by decide⟩) (by rw[<-b1'];exact Nat.le_refl _);have e2:nb=nodes (toks (tX p b)):=by rw[et];exact apg b3
 have e3:=apf (o:=jV (Vw p) s++(b1 123++(tX p b++b1 125))) (ps:=Vh (rW p) s++(.sign 123::(pb++[.sign 125]))) (ns:=pI (kF p) xs++[.mk (Tok.w 15 (b1 123)) nb]) (rs:=[⟨none,pI (kF p) xs,some nb⟩]) ?_ hgood ?_ ?_ hp y
 .rw[e1,e2]at e3;exact e3
 .rw[kV,kV,kV,Tt _ _ (adP hr) s hsf,aN,b1'];show flat _++([123]++(flat pb++[125]))=flat _++([123]++flat (pb++[.sign 125]));rw[aN];rfl
 .rw[cO];exact hnd.append (NK b3 hbn)
 .intro rest;rw[List.append_assoc,List.singleton_append,abl (XK p xs hsel) (fun m hm=>(htop m hm).no (by decide)) (Kq nb)];rfl
structure KPg(p:aI)(root:BY):Prop where
 one:0<p.length
 up:parentOf p 0<0
 par:∀e,0<e->e<p.length->0<=parentOf p e/\(parentOf p e).toNat<e
 cls:TQ p (fun x=>x.classes.contains root) 0=true
theorem aoS{p:aI}{root:BY}(h:KPg p root){s:Nat}(hs:s.testBit 0=true):∀k,k<=p.length->∀e,(mD p s k).testBit e=decide (0<e/\e<k)
 |0,_,e=>by unfold mD;simp
 |k+1,hk,e=>by
  have ih:=aoS h hs k oo;unfold mD;by_cases h0:k=0
  .subst h0;have hu:=h.up;rw[if_neg (by rw[Bool.or_eq_true,KL,KL];omega)];unfold mD;simp;omega
  .obtain⟨q1,q2⟩:=h.par k oo oo;rw[if_pos (by
    rw[Bool.or_eq_true,KL,KL];by_cases hz:(parentOf p k).toNat=0
    .exact .inl ⟨q1,by rw[hz];exact hs⟩
    .exact .inr ⟨q1,by rw[ih];exact decide_eq_true ⟨oo,q2⟩⟩),Nat.testBit_or,ih,Nat.testBit_two_pow,<-Bool.decide_or]
   rw[decide_eq_decide];omega
theorem an2(P:Simple->Nat):∀(l:List Simple) (s e:Nat),(Zt P s l).testBit e=(s.testBit e&&l.all fun x=>(P x).testBit e)
 |[],s,e=>by unfold Zt;simp
 |x::r,s,e=>by unfold Zt;rw[an2 P r,Nat.testBit_and,List.all_cons,Bool.and_assoc]
def apS(P:Simple->Nat)(c:List Simple):Prop:=∃x∈c,(P x).testBit 0=false
theorem aot(p:aI):GN p 0 0=2 ^ p.length-1:=by unfold GN;simp
theorem aoG{p:aI}{root:BY}(h:KPg p root)(P:Simple->Nat){s:Nat}(hs:s.testBit 0=true){c:List Simple}(hc:apS P c):Zt P (GN p 32 s) c=Zt P (GN p 0 0) c:=by
 apply Nat.eq_of_testBit_eq
 intro e;rw[an2,an2,aot,Nat.testBit_two_pow_sub_one];have e1:GN p 32 s=mD p s p.length:=by unfold GN;rw[if_pos rfl]
 rw[e1,aoS h hs _ nl];by_cases h0:e=0
 .subst h0;obtain⟨x,hx,hf⟩:=hc;have ha:(c.all fun x=>(P x).testBit 0)=false:=by
   rw[List.all_eq_false];exact⟨x,hx,by rw[hf];simp⟩
  rw[ha];simp
 .congr 1
  rw[decide_eq_decide];omega
def aph(root:BY):List Step->List Step
 |[]=>[]
 |(_,c)::r=>(0,[Simple.of 46 root])::(32,c)::r
def an8(x:lU):lU:=Bg (0,1,0) x
theorem aoH(a b c:lU):Bg (Bg a b) c=Bg a (Bg b c):=by unfold Bg;simp[Nat.add_assoc]
theorem aop(P:Simple->lU)(a:lU):∀(l:List Simple) (x:lU),Uw P (Bg a x) l=Bg a (Uw P x l)
 |[],_=>rfl
 |s::r,x=>by unfold Uw;rw[aoH,aop P a r]
theorem aoT(P:Simple->lU)(a:lU):∀(l:List Step) (x:lU),GR P (Bg a x) l=Bg a (GR P x l)
 |[],_=>rfl
 |(_,all)::r,x=>by unfold GR;rw[aop,aoT P a r]
theorem apT(root:BY):∀n,wA n (Simple.of 46 root)=(0,1,0)
 |0=>by unfold wA Simple.of;rw[Uy];unfold Zu;rw[if_pos oo];rfl
 |n+1=>by unfold wA Simple.of;rw[Uy];unfold Zu;rw[if_pos oo];rfl
theorem apA{p:aI}{root:BY}(h:KPg p root)(F:lI)(n:Nat){c:List Simple}{r:List Step}(hc:apS (Me F p n) c):Ky F p n (aph root ((0,c)::r))=((Ky F p n ((0,c)::r)).1,an8 (Ky F p n ((0,c)::r)).2):=by
 have hs:(Zt (Me F p n) (GN p 0 0) [Simple.of 46 root]).testBit 0=true:=by rw[an2,aot,Nat.testBit_two_pow_sub_one];simp only[List.all_cons,List.all_nil,Bool.and_true];rw[ah2,yC,h.cls];have:=h.one;simp[this]
 unfold Ky aph;congr 1
 .show Kv p (Me F p n) (Zt (Me F p n) (GN p 32 (Zt (Me F p n) (GN p 0 0) [Simple.of 46 root])) c) r=Kv p (Me F p n) (Zt (Me F p n) (GN p 0 0) c) r;rw[aoG h _ hs hc]
 .show GR (wA n) (Uw (wA n) (Uw (wA n) (0,0,0) [Simple.of 46 root]) c) r=an8 (GR (wA n) (Uw (wA n) (0,0,0) c) r);have e:Uw (wA n) (0,0,0) [Simple.of 46 root]=Bg (0,1,0) (0,0,0):=by
   unfold Uw Uw;rw[apT];rfl
  rw[e,aop,aoT];rfl
theorem apj(a x y:Int):Lib.compareInt (a+x) (a+y)=Lib.compareInt x y:=by
 unfold Lib.compareInt;by_cases h:x<y
 .rw[if_pos h,if_pos oo]
 .rw[if_neg h,if_neg oo];by_cases k:y<x
  .rw[if_pos k,if_pos oo]
  .rw[if_neg k,if_neg oo]
theorem aoX(x y:lU):JQ (an8 x) (an8 y)=JQ x y:=by unfold JQ Pn an8 Bg;simp only[Int.natCast_add,apj]
def an9(x:jS):jS:=⟨x.pr,x.val,x.imp,an8 x.wt⟩
def Bmp(g g':BY->Option jS):Prop:=∀s,g' s=(g s).map an9
theorem apk(x y:jS):btW (an9 x) (an9 y)=btW x y:=by unfold btW an9;simp only[aoX]
theorem aoY{g g':BY->Option jS}(h:Bmp g g')(x:jS):Bmp (zG g x) (zG g' (an9 x)):=by
 intro s;have e:(an9 x).pr=x.pr:=rfl;unfold zG;rw[e,h s,h x.pr];by_cases hs:s=x.pr
 .rw[if_pos hs,if_pos hs];cases hg:g x.pr with
  |none=>rfl
  |some y=>simp only[Option.map_some,apk];cases btW x y<;>rfl
 .rw[if_neg hs,if_neg hs]
theorem aog(t:lU):∀(ds:List Dec) (g g':BY->Option jS),Bmp g g'->Bmp (ds.foldl (Py t) g) (ds.foldl (Py (an8 t)) g')
 |[],_,_,h=>h
 |d::r,_,_,h=>aog t r _ _ (aoY h ⟨d.prop,d.val,d.imp,t⟩)
theorem aoZ(n:Nat):Lib.compareInt (n:Int) ((0:Nat):Int)=if n=0 then 0 else 1:=by
 unfold Lib.compareInt;by_cases h:n=0
 .subst h;rfl
 .rw[if_neg h,if_neg oo,if_pos oo]
theorem apB(x:lU):(if 0<JQ x (0,0,0) then x else(0,0,0))=x:=by
 obtain⟨a,b,c⟩:=x;have e:JQ (a,b,c) (0,0,0)=if a=0 then(if b=0 then(if c=0 then 0 else 1) else 1) else 1:=by
  unfold JQ Pn;simp only[aoZ];by_cases ha:a=0
  .by_cases hb:b=0
   .simp[ha,hb]
   .simp[ha,hb]
  .simp[ha]
 rw[e];by_cases ha:a=0
 .by_cases hb:b=0
  .by_cases hc:c=0
   .simp[ha,hb,hc]
   .simp[ha,hb,hc]
  .simp[ha,hb]
 .simp[ha]
theorem aou(x:Zd)(ds:List Dec)(i:Nat)(g:BY->Option jS):qg [x] ds i g=if hasB x.1 (i:Int)=true then ds.foldl (Py x.2) g else g:=by
 unfold qg NC;by_cases h:hasB x.1 (i:Int)=true
 .simp only[if_pos h];unfold NC;rw[if_pos rfl,apB]
 .simp only[if_neg h];unfold NC;rw[if_neg (by decide)]
structure Kin(F:lI)(p:aI)(root:BY)(r r':Rule):Prop where
 at1:r.at_=none
 at2:r'.at_=none
 body:r'.body=r.body
 dep:depth r'.head=depth r.head
 sel:∃c q,lM (depth r.head) r.head=some [(0,c)::q]/\lM (depth r'.head) r'.head=some [aph root ((0,c)::q)]/\apS (Me F p (depth r.head)) c
theorem ao0{F:lI}{p:aI}{root:BY}(h:KPg p root){r r':Rule}(hk:Kin F p root r r')(i:Nat){g g':BY->Option jS}(hg:Bmp g g'):Bmp (yJ F p r i g) (yJ F p r' i g'):=by
 obtain⟨c,q,h1,h2,h3⟩:=hk.sel;unfold yJ;rw[h1,h2];simp only;rw[hk.at1,hk.at2,if_pos (show(none:Option BY).getD aA=aA from rfl),if_pos (show(none:Option BY).getD aA=aA from rfl),hk.body,hk.dep,List.map_cons,List.map_nil,List.map_cons,List.map_nil,aou,aou,apA h F _ h3];simp only;split
 .exact aog _ _ _ _ hg
 .exact hg
def Two{α:Type}(R:α->α->Prop):List α->List α->Prop
 |[],[]=>True
 |a::l,b::m=>R a b/\Two R l m
 |_,_=>False
theorem aoh{F:lI}{p:aI}{root:BY}(h:KPg p root)(i:Nat):∀(rs rs':List Rule) (g g':BY->Option jS),Two (Kin F p root) rs rs'->Bmp g g'->Bmp (Gl F p i g rs) (Gl F p i g' rs')
 |[],[],_,_,_,hg=>hg
 |_::l,_::m,_,_,hk,hg=>aoh h i l m _ _ hk.2 (ao0 h hk.1 i hg)
 |[],_::_,_,_,hk,_=>hk.elim
 |_::_,[],_,_,hk,_=>hk.elim
theorem aov{F:lI}{p:aI}{root:BY}(h:KPg p root){s s':BY}(hk:Two (Kin F p root) (KR s) (KR s')):kJ (yT F p [s'])=kJ (yT F p [s]):=by
 funext e q
 have:=aoh h e _ _ (fun _=>none) (fun _=>none) hk (fun _=>rfl) q;have e1:yT F p [s'] e q=(yT F p [s] e q).map an9:=this;unfold kJ;rw[e1];cases yT F p [s] e q<;>rfl
theorem ao1{F:lI}{p:aI}{root:BY}(h:KPg p root){s s':BY}(hk:Two (Kin F p root) (KR s) (KR s'))(hd:depth (bH s)<=8)(hd':depth (bH s')<=8){lp lp':Nat->BY->Bool}{e:Nat}{q:BY}
  (hl:∀e s_1,lp e s_1=true↔Sp.Way (yO (kJ (yT F p [s])) e) s_1 s_1) (hl':∀e t,lp' e t=true↔Sp.Way (yO (kJ (yT F p [s'])) e) t t)
  {a b:Ending} (ha:cmR F lp p [s] e q a) (hb:cmR F lp' p [s'] e q b):a=b/\∃t,a=.returned (.tuple #[.string t,.int .i64 0]):=by
 rw[aov h hk]at hl';have hlp:lp=lp':=by
  funext e s
  rw[Bool.eq_iff_iff,hl,hl']
 subst hlp;have e1:nY [s]=false:=by unfold nY;simp[hd]
 have e2:nY [s']=false:=by unfold nY;simp[hd']
 unfold cmR at ha hb;rw[if_neg (by rw[e1];decide)]at ha;rw[if_neg (by rw[e2];decide),aov h hk]at hb;obtain⟨t,h1,h2⟩:=ha;obtain⟨t',h3,h4⟩:=hb;rw[h1,h3,h2.uniq h4];exact⟨rfl,t',rfl⟩
def JG(t:Nat->Int)(w:WD):Prop:=∀k,k<20->w.cell? ⟨3,k,none⟩=some (.int .u64 (t k))
theorem JG.lt{t:Nat->Int}{w:WD}(h:JG t w):3<w.heap.size:=World.block_lt_of_cell? w _ (h 0 oo)
theorem JG.below{t:Nat->Int}{w w':WD}(h:JG t w)(hb:Below w.heap.size w w'):JG t w':=fun k hk=>(World.cell?_of_block (w:=w) (hb.block 3 h.lt)).trans (h k hk)
def adR(u:Nat):Nat:=Lib.l10 (Lib.bitLen u)
theorem TB:∀u:Fin 1000,100<=u.val->(adR u.val=2\/adR u.val=3)/\Lib.bitLen u.val<=64:=by decide +kernel
def ndT(t:Nat->Int)(u:Nat):Nat:=adR u+if t (adR u)<=(u:Int) then 1 else 0
theorem adS{t:Nat->Int}{u:Nat}(h1:100<=u)(h2:u<=999):2<=ndT t u/\ndT t u<=4:=by have:=(TB ⟨u,oo⟩ h1).1;unfold ndT;simp only at this;split<;>omega
theorem TD(t:Nat->Int)(u:Nat)(h1:100<=u)(h2:u<=999)(w:WD)(ht:JG t w):
  Calls prog 380 #[.int .u64 (u:Int)] w fun e w'=>e=.returned (.int .i64 (ndT t u:Nat))/\w'=w:=by
 have hl:=TB ⟨u,oo⟩ h1;simp only at hl;obtain⟨m,Hm⟩:=Nm (adR u);have hm:m=2\/m=3:=by rw[<-Hm.o];exact hl.1
 have hb:=hl.2;clear hl;have hc:=ht m oo;have HT:=hid ht;clear ht;go_in;go_wp2_with fail;refine pmb (Tryz.bits_Len64 (u:Int) w oo oo) fun wq hw=>?_;rw[hw,Int.toNat_natCast];clear hw;go_wp2_with fail;refine pmb (Tryz.internal_strconv_log10Pow2 (Lib.bitLen u) hb w) fun wq hw=>?_;rw[hw,show Lib.l10 (Lib.bitLen u)=m from Hm.o];clear hw;have anz:(m:Int)<20:=oo;obtain⟨x,Hx⟩:=Nm (t m);rw[Hx.o]at hc;by_cases hx:x<=(u:Int)
 all_goals
  have HN:Hid (ndT t u=m+(if x<=(u:Int) then 1 else 0)):=by show _=_;unfold ndT;rw[Hm.o,Hx.o]
  go_wp2_with fail;refine pmb (Tryz.internal_strconv_bool2_int _ w) fun wq hw=>?_;rw[hw];clear hw;go_wp2_with fail;go_ret;rw[HN.o];first
   |(rw[if_pos hx];simp)
   |(rw[if_neg oo];simp)
theorem ajD(u j:Nat):48<=(Lib.dg u j).toNat/\(Lib.dg u j).toNat<=57:=by unfold Lib.dg;have:u/10 ^ j%10<10:=Nat.mod_lt _ oo;rw[UInt8.toNat_ofNat'];omega
theorem fmt2(b cap u:Nat)(hu:u<=999)(w:WD)(c1:w.cell? ⟨b,1,none⟩=some (.int .u8 0))(c2:w.cell? ⟨b,1+1,none⟩=some (.int .u8 0))(f1:w.frozen? ⟨b,1,none⟩=false)(f2:w.frozen? ⟨b,1+1,none⟩=false):
  Calls prog 381 #[.slice (some ⟨b,1,none⟩) 2 cap,.int .u64 (u:Int)] w fun e w'=>e=.returned (.tuple #[])/\w'.cell? ⟨b,1,none⟩=some (.int .u8 ((Lib.dg u 1).toNat:Int))/\w'.cell? ⟨b,1+1,none⟩=some (.int .u8 ((Lib.dg u 0).toNat:Int))/\Below b w w':=by
 have hr:Hid (Lib.sm (u%100*2)=Lib.dg u 1/\Lib.sm (u%100*2+1)=Lib.dg u 0):=by
  refine⟨?_,?_⟩
  .rw[Lib.sm_hi _ (Nat.mod_lt _ oo)];unfold Lib.dg;congr 2;omega
  .rw[Lib.sm_lo _ (Nat.mod_lt _ oo)];unfold Lib.dg;congr 2;omega
 go_in;go_name_bytes SM hSM
 have eSM:SM=Lib.smalls:=by rw[<-hSM];decide +kernel
 subst eSM;clear hSM;go_wp2_with fail;refine wp_loop_rounds 1 ?_;rw[rounds_succ];go_wp2_with fail;go_name_slot 16 x hx
 have hxe:x=((u%100*2:Nat):Int):=oo;have hXa:∀w,(Instr.index 9 (.string Lib.smalls) (.int .u32 (x+1))).run prog w=.ok (.int .u8 ((Lib.sm (u%100*2+1)).toNat:Int)) w:=Lib.idx_smalls 9 Tryz.underlying9 .u32 _ _ oo oo;have hXb:∀w,(Instr.index 9 (.string Lib.smalls) (.int .u32 x)).run prog w=.ok (.int .u8 ((Lib.sm (u%100*2)).toNat:Int)) w:=Lib.idx_smalls 9 Tryz.underlying9 .u32 _ _ oo oo;have hlo:0<=x:=oo;have hhi:x<=198:=oo;clear hx hxe;rw[hr.o.1]at hXb;rw[hr.o.2]at hXa;go_region
 go_wp2_with fail;go_end0
 refine⟨rfl,?_,?_,?_⟩
 .show World.cell? (World.setCell _ _ _) _=_;refine World.cell?_setCell_same _ _ _ (u:=.int .u8 0) ?_;exact(World.cell?_setCell_other _ _ _ (b:=⟨b,1,none⟩) Aa).trans c1
 .show World.cell? (World.setCell _ _ _) _=_;refine(World.cell?_setCell_other _ _ _ (b:=⟨b,2,none⟩) Aa).trans ?_;exact World.cell?_setCell_same _ _ _ c2
 .exact((((Below.refl b w).setCell (p:=⟨b,2,none⟩) nl _).setCell (p:=⟨b,1,none⟩) nl _)).drew
def JH(nd u:Nat):List UInt8:=(List.range nd).map fun j=>Lib.dg u (nd-1-j)
theorem JI(nd u:Nat):(JH nd u).length=nd:=by simp[JH]
theorem agN{nd u j:Nat}(h:j<(JH nd u).length):(JH nd u)[j]=Lib.dg u (nd-1-j):=by simp[JH]
theorem agO(u nd:Nat)(T:TypeId)(hu:u<=999)(h2:2<=nd)(h4:nd<=4)(w:WD):
  Calls prog 381 #[.slice (some ⟨w.heap.size,1,none⟩) nd 23,.int .u64 (u:Int)] (w.alloc (.cells Lib.zeros24 T)) fun e w'=>e=.returned (.tuple #[])/\(∀j,j<nd->w'.cell? ⟨w.heap.size,1+j,none⟩=some (.int .u8 ((Lib.dg u (nd-1-j)).toNat:Int)))/\Below w.heap.size w w':=by
 have hH0:=Lib.holds_zero w T nd oo;have hb0:Below w.heap.size w (w.alloc (.cells Lib.zeros24 T)):=As.alloc nl _;rcases Nat.lt_or_ge nd 3 with h3|h3
 .obtain rfl:nd=2:=oo;have c1:=hH0 0 Aa;have c2:=hH0 1 Aa;refine(fmt2 w.heap.size 23 u hu _ (by simpa using c1.1) (by simpa using c2.1) c1.2 c2.2).mono ?_;rintro e w' ⟨rfl,k1,k2,hb⟩;refine⟨rfl,fun j hj=>?_,hb0.trans hb⟩;rcases(show j=0\/j=1 by omega)with rfl|rfl
  .exact k1
  .exact k2
 .have hp:u<10 ^ nd:=by
   rcases(show nd=3\/nd=4 by omega)with rfl|rfl<;>omega
  have hfmt:=Tryz.internal_strconv_formatBase10 w.heap.size 1 23 u (Array.replicate nd 0) (w.alloc (.cells Lib.zeros24 T)) hH0 (by rw[Array.size_replicate];exact hp) oo (by rw[Array.size_replicate];omega);rw[Array.size_replicate]at hfmt;refine hfmt.mono ?_;rintro e w' ⟨rfl,k,v',dk,rfl,hF⟩;refine⟨rfl,fun j hj=>?_,?_⟩
  .rw[World.cell?_drewN,<-hF.done j oo hj];exact Go.Sort.cell?_putRow (fun(b:UInt8)=>Value.int .u8 (b.toNat:Int)) _ w.heap.size 1 _ dk hH0 (by rw[hF.size,Array.size_replicate]) j (by rw[hF.size];exact hj)
  .obtain⟨os,eo⟩:=Lib.fin_pos w (.cells Lib.zeros24 T) dk k;rw[eo];exact⟨rfl,rfl,rfl,by show w.heap.size<=(w.heap++os).size;simp,fun i hi=>by show(w.heap++os)[i]?=w.heap[i]?;rw[Array.getElem?_append_left hi]⟩
theorem TF(t:Nat->Int)(u:Nat)(h1:100<=u)(h2:u<=999)(w:WD)(ht:JG t w):
  Calls prog 378 #[.int .i64 (u:Int),.int .i64 10] w fun e w'=>e=.returned (.string ⟨(JH (ndT t u) u).toArray⟩)/\Below w.heap.size w w':=by
 obtain⟨nd,Hnd⟩:=Nm (ndT t u);have hnd:=adS (t:=t) h1 h2;rw[Hnd.o]at hnd⊢;have HT:=hid ht;clear ht;have hal:prog.arrayLen 390=24:=by simp[Program.arrayLen,Tryz.underlying390]
 have hsl1:∀W,(Instr.sliceAt 390 (.pointer (some ⟨w.heap.size,0,none⟩)) (some (.int .i64 1)) (some (.int .i64 (1+(nd:Int)))) none).run prog W=.ok (.slice (some ⟨w.heap.size,1,none⟩) nd 23) W:=fun W=>by rw[run_sliceAt_array_lh W 390 ⟨w.heap.size,0,none⟩ (by simp[Program.arrayLen,Program.elem,Tryz.underlying390]) .i64 .i64 1 (1+(nd:Int)) oo oo (by rw[hal];omega)];go_simp;omega
 clear hal;go_in;go_wp2_with fail;refine pmb (TD t u h1 h2 _ (HT.o.below (As.alloc nl _))) fun wq hw=>?_;rw[hw,Hnd.o];clear hw;go_wp2_with fail;refine(agO u nd 390 h2 hnd.1 hnd.2 w).mono ?_;rintro e w2 ⟨rfl,hc,hb⟩;have hcv:(convert 145 9 (.slice (some ⟨w.heap.size,1,none⟩) nd 23)).run prog w2=.ok (.string ⟨(JH nd u).toArray⟩) w2:=by
  have h:=run_convert_bytes_back (P:=prog) w2 145 9 5 ⟨w.heap.size,1,none⟩ 23 (JH nd u) Tryz.underlying145 Tryz.underlying5 Tryz.underlying9 (fun j hj=>by rw[agN,Lib.add_plain];exact hc j (by rw[JI]at hj;exact hj))
  rw[JI]at h;exact h
 have HB:=hid hb;clear hc hb;go_wp2_with fail;go_ret;exact⟨rfl,HB.o⟩
theorem ajE(t:Nat->Int)(u:Nat)(h1:100<=u)(h2:u<=999)(w:WD)(ht:JG t w):
  Calls prog 377 #[.int .i64 (u:Int)] w fun e w'=>e=.returned (.string ⟨(JH (ndT t u) u).toArray⟩)/\Below w.heap.size w w':=by
 have HT:=hid ht;clear ht;go_in;go_wp2_with fail;refine pmb (TF t u h1 h2 w HT.o) fun w1 hb=>?_;have HB:=hid hb;clear hb;go_wp2_with fail;go_ret;exact⟨rfl,HB.o⟩
theorem ajF(t:Nat->Int)(u:Nat)(h1:100<=u)(h2:u<=999)(w:WD)(ht:JG t w):
  Calls prog 376 #[.int .i64 (u:Int)] w fun e w'=>e=.returned (.string ⟨(JH (ndT t u) u).toArray⟩)/\Below w.heap.size w w':=by
 have HT:=hid ht;clear ht;go_in;go_wp2_with fail;refine pmb (ajE t u h1 h2 w HT.o) fun w1 hb=>?_;have HB:=hid hb;clear hb;go_wp2_with fail;go_ret;exact⟨rfl,HB.o⟩
def JJ(t:Nat->Int)(n:Nat):List UInt8:=if n<100 then Lib.decDigits n else JH (ndT t n) n
theorem ajG:∀n:Fin 100,0<(Lib.decDigits n.val).length/\(Lib.decDigits n.val).length<=100/\∀c∈Lib.decDigits n.val,48<=c.toNat/\c.toNat<=57:=by
 intro n;have e:Lib.decDigits n.val=if n.val<10 then [UInt8.ofNat (48+n.val)] else [UInt8.ofNat (48+n.val/10),UInt8.ofNat (48+n.val%10)]:=by
  rw[Lib.decDigits];split
  .rfl
  .rw[Lib.decDigits,dif_pos oo];rfl
 rw[e];revert n
 decide +kernel
theorem Pe(t:Nat->Int){n:Nat}(hn:n<=999):0<(JJ t n).length/\(JJ t n).length<=100/\∀c∈JJ t n,48<=c.toNat/\c.toNat<=57:=by
 unfold JJ;split
 .rename_i h;exact ajG ⟨n,h⟩
 .rename_i h;have:=adS (t:=t) (u:=n) oo hn;rw[JI];refine⟨oo,oo,fun c hc=>?_⟩;obtain⟨j,_,rfl⟩:=List.mem_map.1 hc;exact ajD _ _
def jW(t:Nat->Int):ZW where
 dO n:=if n<=999 then⟨(JJ t n).toArray⟩ else b1 48
 pos n _:=by
  split
  .rename_i h;exact(by rw[show(⟨(JJ t n).toArray⟩:BY).size=(JJ t n).length from rfl];exact(Pe t h).1)
  .decide
 sz n _:=by
  split
  .rename_i h;exact(by rw[show(⟨(JJ t n).toArray⟩:BY).size=(JJ t n).length from rfl];exact(Pe t h).2.1)
  .decide
 mW n h c hc:=by rw[if_pos h]at hc;have:=(Pe t h).2.2 c (by simpa using hc);unfold fG;simp;omega
theorem Xv[bV]:jm:=fun n hn=>(default:ZW).sz n hn
theorem adT(t:Nat->Int)(w:WD)(h:JG t w): @jD ⟨jW t⟩ w:=by
 intro n w' hn hb;have e: @H7 ⟨jW t⟩ n=⟨(JJ t n).toArray⟩:=if_pos hn;rw[e];unfold JJ;by_cases h1:n<100
 .rw[if_pos h1];refine(Tryz.strconv_Itoa_small n h1 w').mono ?_;rintro e w2 ⟨rfl,rfl⟩;exact⟨rfl,As⟩
 .rw[if_neg h1];exact ajF t n oo hn w' (h.below hb)
theorem adU:prog.cellTypes prog.depth 396=some (List.replicate 20 101):=by kernel_rfl
theorem ajH(W:WD)(hsh:W.ShapedOpen prog):∃t,JG t W:=by
 have h0:((begin prog (fun _ _=>0) default).world.heap[3]?).bind Obj.row?=some (Array.replicate 20 (.int .u64 0),396):=by kernel_rfl
 obtain⟨cs,hh,hs,hr⟩:=hsh.1 3 _ 396 (of_decide_eq_true An) h0;obtain⟨ts,hts,_,hall⟩:=hr An;rw[adU]at hts;cases hts;have amV:cs.size=20:=by rw[hs];simp
 have key:∀k,k<20->∃m,W.cell? ⟨3,k,none⟩=some (.int .u64 m):=fun k hk=>by
  have h1:k<cs.size:=oo;obtain⟨u,hu',hok⟩:=hall k cs[k] (by simp[h1]);have:u=101:=by rw[List.getElem?_replicate,if_pos (by simp;omega)]at hu';exact(Option.some.inj hu').symm
  subst this;have hcell:W.cell? ⟨3,k,none⟩=some cs[k]:=by simp[World.cell?,hh,h1]
  rw[hcell];unfold Cell.ok at hok;rw[Tryz.underlying101]at hok;cases hv:cs[k]<;>rw[hv]at hok<;>simp at hok
  case int k' n=>exact⟨n,by rw[hok.1]⟩
 refine⟨fun k=>if h:k<20 then(key k h).choose else 0,fun k hk=>?_⟩;show _=some (Value.int .u64 (if h:k<20 then(key k h).choose else 0));rw[dif_pos hk];exact(key k hk).choose_spec
theorem cells_at{w:WD}{b:Nat}{cs:Array Av}{T:TypeId}(h:w.heap[b]?=some (.cells cs T (0,0)))(i:Nat):w.cell? ⟨b,i,none⟩=cs[i]?:=by unfold World.cell?;rw[h];simp
theorem Pg{S:Nat->Prop}{w:WD}{b:Nat}(hS:S b):∀(l:List BY) (o:Nat),(∀i (h:i<l.length),w.cell? ⟨b,o+i,none⟩=some (.string l[i]))->(∀s∈l,s.size<=4194304)->LG eX 1 S w l b o
 |[],_,_,_=>by simp[LG]
 |s::r,o,h,hz=>by
  refine⟨⟨hS,[.string s],⟨rfl,hz s List.mem_cons_self⟩,fun j u hu=>?_⟩,Pg hS r (o+1) (fun i hi=>?_) (fun x hx=>hz x (List.mem_cons_of_mem _ hx))⟩
  .match j,hu with
   |0,hu=>cases hu;exact h 0 Aa
  .have:=h (i+1) (by simpa using hi);rw[show o+1+i=o+(i+1) by omega];exact this
theorem Ph{S:Nat->Prop}{w:WD}{b:Nat}{l:List BY}{n cap:Nat}(hn:n=l.length)(hS:S b)(hc:l.length<=cap)(h6:l.length<=2097152)(h:∀i (h:i<l.length),w.cell? ⟨b,0+i,none⟩=some (.string l[i]))(hz:∀s∈l,s.size<=4194304):SG eX 1 S w (.slice (some ⟨b,0,none⟩) n cap) l:=by subst hn;exact⟨_,cap,rfl,⟨hc,h6⟩,fun _=>⟨b,0,rfl,Pg hS l 0 h hz⟩⟩
theorem Za{w:WD}{base b:Nat}{T:TypeId}{n:Nat}(l:List BY)(hn:n=l.length)(h:w.heap[b]?=some (.cells (l.map Value.string).toArray T (0,0)))(hb:base<=b)(hl:n<=100):w.ownsRow base T 1 (.slice (some ⟨b,0,none⟩) n n) n (l.map Value.string):=by subst hn;exact⟨by simp,.inr ⟨b,_,_,rfl,hb,h,Nat.le_refl _,by unfold maxLen;omega,by simp,by simp[List.take_of_length_le]⟩⟩
theorem agP{w:WD}{base n:Nat}{T:TypeId}{v:Av}{l:List BY}(h:w.ownsRow base T 1 v n (l.map Value.string))(hn:n=l.length)(h1:1<=n)(hl:n<=100)(hz:∀s∈l,s.size<=4194304):SG eX 1 (fun b=>b<w.heap.size) w v l:=by
 subst hn;have hc:=fun g=>h.cells (g:=g);have hlt:=h.lt;rcases h.2 with⟨rfl,hn⟩|⟨g,cap,cur,rfl,hbg,hg,hnc,hrest⟩
 .omega
 .exact Ph rfl (hlt g rfl).2 hnc oo (fun i hi=>by have:=hc g rfl i (.string l[i]) (by rw[List.getElem?_map,List.getElem?_eq_getElem hi];rfl);rwa[Addr.add_lit]at this) hz
theorem qy{w w1:WD}{o0:Obj}(h:w.alloc o0=w1):w1.heap[w.heap.size]?=some o0/\Below w.heap.size w w1:=by subst h;exact⟨heap_alloc_new w _,As.alloc nl _⟩
theorem alF{w w1:WD}{o0 o1 o2:Obj}(h:((w.alloc o0).alloc o1).alloc o2=w1):w1.heap[w.heap.size]?=some o0/\w1.heap[w.heap.size+1]?=some o1/\w1.heap[w.heap.size+1+1]?=some o2/\Below w.heap.size w w1:=by
 subst h;refine⟨?_,?_,?_,((As.alloc nl _).alloc Aa _).alloc Al _⟩
 .rw[Below.heap_alloc _ _ _ (by simp;omega),Below.heap_alloc _ _ _ Aa];exact heap_alloc_new w _
 .rw[Below.heap_alloc _ _ _ (by simp)];have:=heap_alloc_new (w.alloc o0) o1;simpa using this
 .have:=heap_alloc_new ((w.alloc o0).alloc o1) o2;simpa using this
def pAw:aF:=⟨⟨#[114]⟩,[⟨#[99,111,108,111,114]⟩],[],[],false,false⟩
def sAw:BY:=⟨#[112,123,99,111,108,111,114,58,117,114,108,40,120,41,125,32,112,123,99,111,108,111,114,58,114,101,100,59,116,111,112,58,48,125]⟩
def oAw:BY:=⟨#[46,114,32,112,123,99,111,108,111,114,58,114,101,100,125]⟩
theorem Zb[bV]:(dR sAw pAw).1=oAw/\(dR sAw pAw).2=0:=⟨by kernel_rfl,by kernel_rfl⟩
theorem agR[bV](w:WD)(hI:jD w)(hl:Lit w):
  Calls prog 17 #[] w fun e w'=>e=.returned (.bool true)/\Below w.heap.size w w':=by
 have HI:=hid hI;have HL:=hid hl;clear hI hl;go_in;go_wp2_with fail;generalize hw1:World.alloc _ _=w1;obtain⟨q0,hb⟩:=qy hw1;have HB:=hid hb;have R1:w1.ownsRow w.heap.size 9 1 (.slice (some ⟨w.heap.size,0,none⟩) 1 1) 1 (pAw.props.map Value.string):=Za _ rfl q0 nl oo;have hS:=agP R1 rfl oo oo (fun s hs=>by rw[List.mem_singleton.1 hs];decide);have PM:jK w1.heap.size w1 pAw (.slice (some ⟨w.heap.size,0,none⟩) 1 1) (.slice none 0 0) (.slice none 0 0):=⟨hS,SG.iE _ _ _ _ _ _,SG.iE _ _ _ _ _ _,Nat.le_refl _⟩;refine(YT w1.heap.size sAw pAw _ _ _ w1 PM (HI.o.below hb nl) Xv (HL.o.below hb) Ab Ab).mono ?_;rw[Zb.1,Zb.2];clear hw1 q0 hb R1 hS PM;rintro e w2 ⟨rfl,hb⟩;have HB2:=hid (Ay HB.o hb);clear hb HB;unfold oAw;go_wp2_with fail;go_ret
 exact⟨rfl,HB2.o⟩
def bK(c:Int)(n:Nat):Nat:=(Int.tmod (if c<0 then -(c+1) else c) n).toNat
theorem Dz(c:Int)(n:Nat):Int.tmod (if c<0 then -(c+1) else c) n=(bK c n:Int):=by
 have h:0<=(if c<0 then -(c+1) else c):=by split<;>omega
 unfold bK;rw[Int.tmod_eq_emod_of_nonneg h];cases n with
 |zero=>simp;omega
 |succ n=>exact(Int.toNat_of_nonneg (Int.emod_nonneg _ oo)).symm
theorem jJ(c:Int){n:Nat}(hn:0<n):bK c n<n:=by
 have h:0<=(if c<0 then -(c+1) else c):=by split<;>omega
 have:=Dz c n;rw[Int.tmod_eq_emod_of_nonneg h]at this;have:=Int.emod_lt_of_pos (if c<0 then -(c+1) else c) (show(0:Int)<n by omega);omega
def rX:Nat->BY
 |0=>⟨#[114]⟩
 |1=>⟨#[115,97,110,100,98,111,120]⟩
 |_=>⟨#[98,111,120]⟩
theorem rY{w:WD}{b:Nat}{T:TypeId}(h:w.heap[b]?=some (.cells #[.string ⟨#[114]⟩,.string ⟨#[115,97,110,100,98,111,120]⟩,.string ⟨#[98,111,120]⟩] T (0,0))):∀i,i<3->w.cell? ⟨b,i,none⟩=some (.string (rX i)):=by intro i hi;rw[cells_at h];rcases(show i=0\/i=1\/i=2 by omega)with rfl|rfl|rfl<;>rfl
def kS9:List BY:=[⟨#[112]⟩,⟨#[100,105,118]⟩,⟨#[46,120]⟩,⟨#[35,97]⟩,⟨#[112,32,62,32,98]⟩,⟨#[100,105,118,32,112]⟩,⟨#[112,32,43,32,112]⟩,⟨#[98,32,126,32,97]⟩,⟨#[100,105,118,46,120]⟩,⟨#[97,58,102,105,114,115,116,45,99,104,105,108,100]⟩,⟨#[112,58,110,116,104,45,99,104,105,108,100,40,50,41]⟩,⟨#[98,58,110,111,116,40,46,121,41]⟩,⟨#[100,105,118,32,91,107,61,34,118,34,93]⟩,⟨#[112,58,105,115,40,35,97,44,46,120,41]⟩]
def kP9:List BY:=[⟨#[99,111,108,111,114]⟩,⟨#[119,105,100,116,104]⟩,⟨#[45,45,120]⟩,⟨#[45,45,121]⟩]
def kV9:List BY:=[⟨#[114,101,100]⟩,⟨#[49,112,120]⟩,⟨#[99,97,108,99,40,49,112,120,32,43,32,50,37,41]⟩,⟨#[35,102,48,48]⟩,⟨#[97,44,98]⟩,⟨#[105,110,104,101,114,105,116]⟩]
def DL(j:Nat):BY:=kS9.getD j aA
def aow(a v:Nat)(im:Bool):BY:=kP9.getD a aA++(b1 58++(kV9.getD v aA++(if im=true then ZX else aA)))
def Q9(root:BY):aF:=⟨root,[⟨#[99,111,108,111,114]⟩,⟨#[119,105,100,116,104]⟩],[⟨#[99,97,108,99]⟩],[],true,false⟩
def kH9(j:Nat):List Nd:=bH (DL j)
def kC9(j:Nat):List Step:=((Ot (kH9 j)).getD []).headD []
def kN9(a v:Nat)(im:Bool):List Nd:=bH (aow a v im)
def kQ9[bV](root:BY)(j:Nat):List Nd:=aoR (Q9 root) [kC9 j]
def okF:Simple->Bool
 |.mk k nm _ _ _ _=>(decide (k=116)&&(decide (nm=b1 112)||(decide (nm=⟨#[100,105,118]⟩)||(decide (nm=b1 98)||decide (nm=b1 97)))))||(decide (k=46)&&decide (nm=b1 120))||(decide (k=35)&&decide (nm=b1 97))
def ap2(cx:List Step):Bool:=match cx with|(0,x::_)::_=>okF x|_=>false
def bodies:List (Nat×Nat×Bool):=(List.range 4).flatMap fun a=>(List.range 6).flatMap fun v=>[(a,v,false),(a,v,true)]
theorem S9{α β:Type}{f g:α->β}{l:List α}(h:l.map f=l.map g){x:α}(hx:x∈l):f x=g x:=List.map_inj_left.1 h x hx
theorem aqd:(List.range 14).map (fun j=>Ot (kH9 j))=(List.range 14).map (fun j=>some [kC9 j]):=by kernel_rfl
theorem apU:(List.range 14).all (fun j=>ap2 (kC9 j))=true:=by kernel_rfl
theorem ap3(t:Nat->Int):(List.range 14).map (fun j=>@dW ⟨Go.Proofs.YtlliliddljkbfaaGreat.jW t⟩ (kC9 j)++aA)=(List.range 14).map DL:=by kernel_rfl
theorem ap4(root:BY):bodies.map (fun x=>tX (Q9 root) (kN9 x.1 x.2.1 x.2.2))=bodies.map (fun x=>aow x.1 x.2.1 x.2.2):=by kernel_rfl
theorem readA(t:Nat->Int):(List.range 14).map (fun j=>Ot (@kQ9 ⟨Go.Proofs.YtlliliddljkbfaaGreat.jW t⟩ aA j))=(List.range 14).map (fun j=>some [kC9 j]):=by kernel_rfl
theorem readB(t:Nat->Int):(List.range 14).map (fun j=>(List.range 3).map fun i=>Ot (@kQ9 ⟨Go.Proofs.YtlliliddljkbfaaGreat.jW t⟩ (rX i) j))=(List.range 14).map (fun j=>(List.range 3).map fun i=>some [aph (rX i) (kC9 j)]):=by kernel_rfl
theorem apK(t:Nat->Int):(List.range 14).map (fun j=>(List.range 3).map fun i=>(depth (@kQ9 ⟨Go.Proofs.YtlliliddljkbfaaGreat.jW t⟩ (rX i) j),decide (depth (@kQ9 ⟨Go.Proofs.YtlliliddljkbfaaGreat.jW t⟩ aA j)<=7)))=(List.range 14).map (fun j=>(List.range 3).map fun _=>(depth (@kQ9 ⟨Go.Proofs.YtlliliddljkbfaaGreat.jW t⟩ aA j),true)):=by kernel_rfl
theorem ap5:((List.range 14).all fun j=>decide ((DL j).size<=14)&&(DL j).data.toList.all fun c=>decide (32<=c.toNat))=true:=by kernel_rfl
theorem ap6:(bodies.all fun x=>decide ((aow x.1 x.2.1 x.2.2).size<=30)&&(decide (0<(aow x.1 x.2.1 x.2.2).size)&&((aow x.1 x.2.1 x.2.2).data.toList.all (fun c=>decide (32<=c.toNat))&&decide (depth (kN9 x.1 x.2.1 x.2.2)<=7))))=true:=by kernel_rfl
section
structure KR9 where
 s:Nat
 a:Nat
 v:Nat
 im:Bool
def KR9.ok(x:KR9):Prop:=x.s<14/\x.a<4/\x.v<6
def an0(x:KR9):BY:=aow x.a x.v x.im
def nK9(x:KR9):List Nd:=kN9 x.a x.v x.im
def pcK(x:KR9):BY:=DL x.s++(b1 123++(an0 x++b1 125))
def wpK(root:BY)(x:KR9):BY:=Vw (Q9 root)++pcK x
theorem aoa{a v:Nat}(im:Bool)(ha:a<4)(hv:v<6):(a,v,im)∈bodies:=by unfold bodies;rw[List.mem_flatMap];refine⟨a,List.mem_range.2 ha,?_⟩;rw[List.mem_flatMap];refine⟨v,List.mem_range.2 hv,?_⟩;cases im<;>simp
structure KD9[bV]:Prop where
 text:∀j,j<14->dW (kC9 j)++aA=DL j
 rd0:∀j,j<14->Ot (kQ9 aA j)=some [kC9 j]
 rd:∀i j,i<3->j<14->Ot (kQ9 (rX i) j)=some [aph (rX i) (kC9 j)]
 dp:∀i j,i<3->j<14->depth (kQ9 (rX i) j)=depth (kQ9 aA j)
 d7:∀j,j<14->depth (kQ9 aA j)<=7
theorem ap7(t:Nat->Int): @KD9 ⟨Go.Proofs.YtlliliddljkbfaaGreat.jW t⟩:=by
 refine @KD9.mk ⟨Go.Proofs.YtlliliddljkbfaaGreat.jW t⟩ (fun j hj=>S9 (ap3 t) (List.mem_range.2 hj)) (fun j hj=>S9 (readA t) (List.mem_range.2 hj)) (fun i j hi hj=>S9 (S9 (readB t) (List.mem_range.2 hj)) (List.mem_range.2 hi)) (fun i j hi hj=>?_) (fun j hj=>?_)
 .exact(Prod.mk.inj (S9 (S9 (apK t) (List.mem_range.2 hj)) (List.mem_range.2 hi))).1
 .exact of_decide_eq_true (Prod.mk.inj (S9 (S9 (apK t) (List.mem_range.2 hj)) (List.mem_range.2 (show 0<3 by omega)))).2
section
variable {x:KR9} (hx:x.ok)
include hx
theorem anX:(DL x.s).size<=14/\∀c∈(DL x.s).data.toList,32<=c.toNat:=by have:=List.all_eq_true.1 ap5 x.s (List.mem_range.2 hx.1);simp only[Bool.and_eq_true,decide_eq_true_eq,List.all_eq_true]at this;exact this
theorem W9:(an0 x).size<=30/\0<(an0 x).size/\(∀c∈(an0 x).data.toList,32<=c.toNat)/\depth (nK9 x)<=7:=by have:=List.all_eq_true.1 ap6 _ (aoa x.im hx.2.1 hx.2.2);simp only[Bool.and_eq_true,decide_eq_true_eq,List.all_eq_true]at this;exact this
theorem aob(root:BY):tX (Q9 root) (nK9 x)=an0 x:=by have h:=S9 (ap4 root) (aoa x.im hx.2.1 hx.2.2);simp only at h;exact h
theorem ao2:nodes (toks (an0 x))=nK9 x:=by show _=bH (an0 x);unfold bH;rw[adQ (W9 hx).2.2.1]
theorem apl:an0 x≠aA:=by intro e;have:=(W9 hx).2.1;rw[e]at this;exact absurd this (by decide)
theorem apm[bV](hd:KD9)(root:BY)(H:List Nd)(hr:Ot H=some [kC9 x.s]):H8 (Q9 root) ⟨none,H,some (nK9 x)⟩ (nK9 x)=wpK root x:=by unfold H8;simp only;rw[hr];simp only;rw[aob hx,if_neg (apl hx)];unfold jV qC;rw[hd.text _ hx.1];unfold wpK pcK;rw[ByteArray.append_assoc]
theorem apn:(pcK x).size<=46:=by
 have h1:=(anX hx).1;have h2:=(W9 hx).1;have e:(pcK x).size=(DL x.s).size+(1+((an0 x).size+1)):=by unfold pcK;rw[ByteArray.size_append,ByteArray.size_append,ByteArray.size_append];rfl
 omega
theorem apo{root:BY}(hb:∀c∈root.data.toList,32<=c.toNat):∀c∈(wpK root x).data.toList,32<=c.toNat:=by
 have h1:=(anX hx).2;have h2:=(W9 hx).2.2.1;intro c hc;unfold wpK pcK at hc;rw[kV,kV,kV,kV]at hc;simp only[List.mem_append]at hc;rcases hc with hc|hc|hc|hc|hc
 .unfold Vw at hc;split at hc
  .cases hc
  .rw[kV,kV]at hc;simp only[List.mem_append]at hc;rcases hc with hc|hc|hc
   .rw[Xn,List.mem_singleton]at hc;subst hc;decide
   .exact hb c hc
   .rw[Xn,List.mem_singleton]at hc;subst hc;decide
 .exact h1 c hc
 .rw[Xn,List.mem_singleton]at hc;subst hc;decide
 .exact h2 c hc
 .rw[Xn,List.mem_singleton]at hc;subst hc;decide
theorem apC[bV](hd:KD9){root:BY}(hr:root.data.toList.all jh=true)(hb:∀c∈root.data.toList,32<=c.toNat)(y:BY):bH (wpK root x++y)=(kQ9 root x.s++[.mk (Tok.w 15 (b1 123)) (nK9 x)])++bH y/\KR (wpK root x++y)=[⟨none,kQ9 root x.s,some (nK9 x)⟩]++KR y:=by have hs:Ot (kH9 x.s)=some [kC9 x.s]:=S9 aqd (List.mem_range.2 hx.1);have e:=apm hx hd root (kH9 x.s) hs;have h:=aoF (p:=Q9 root) (r:=⟨none,kH9 x.s,some (nK9 x)⟩) (b:=nK9 x) (s:=[kC9 x.s]) hr (Di (s:=DL x.s) (by have:=(anX hx).1;omega)).1 (Di (s:=an0 x) (by have:=(W9 hx).1;omega)).1 (agF (an0 x)) hs (by rw[aob hx];exact apl hx) (by rw[e];exact apo hx hb) y;rw[e,aob hx,ao2 hx]at h;exact h
end
def CY(root:BY)(l:List KR9):BY:=cat (l.map (wpK root))
theorem aox:bH aA=[]/\KR aA=[]:=by
 have e1:bH aA=[]:=by decide
 exact⟨e1,by unfold KR;rw[e1];rfl⟩
theorem anY[bV](hd:KD9){root:BY}(hr:root.data.toList.all jh=true)(hb:∀c∈root.data.toList,32<=c.toNat)(h7:∀j,j<14->depth (kQ9 root j)<=7):∀(l:List KR9),(∀x∈l,x.ok)->depth (bH (CY root l))<=8/\KR (CY root l)=l.map (fun x=>⟨none,kQ9 root x.s,some (nK9 x)⟩)
 |[],_=>by show depth (bH aA)<=8/\KR aA=[];rw[aox.1,aox.2];exact⟨by simp[depth],rfl⟩
 |x::l,h=>by have hx:=h x Aa;obtain⟨i1,i2⟩:=anY hd hr hb h7 l (fun y hy=>h y (by simp[hy]));obtain⟨k1,k2⟩:=apC hx hd hr hb (CY root l);show depth (bH (wpK root x++CY root l))<=8/\KR (wpK root x++CY root l)=_;rw[k1,k2,i2,kC,kC];refine⟨?_,rfl⟩;have a1:=h7 x.s hx.1;have a2:=(W9 hx).2.2.2;have a3:=zu (t:=Tok.w 15 (b1 123)) (ns:=nK9 x) (D:=8) oo;omega
theorem QZ(root:BY)(hr:root.size<=7):∀(l:List KR9),(∀x∈l,x.ok)->(CY root l).size<=55*l.length
 |[],_=>by show 0<=_;omega
 |x::l,h=>by
  have ih:=QZ root hr l (fun y hy=>h y (by simp[hy]));have hp:=apn (h x Aa);have e:(CY root (x::l)).size=((Vw (Q9 root)).size+(pcK x).size)+(CY root l).size:=by show(wpK root x++CY root l).size=_;rw[ByteArray.size_append];unfold wpK;rw[ByteArray.size_append]
  have ha:(Vw (Q9 root)).size<=9:=by
   unfold Vw;split
   .show 0<=9;omega
   .rw[ByteArray.size_append,ByteArray.size_append];have e1:(b1 46).size=1:=rfl;have e2:(b1 32).size=1:=rfl;have e3:(Q9 root).root.size<=7:=hr;omega
  rw[List.length_cons];omega
theorem anO:∀i,i<3->(rX i).data.toList.all jh=true/\(∀c∈(rX i).data.toList,32<=c.toNat)/\(rX i).size<=7/\qp (Q9 (rX i))=true/\rX i≠aA:=by intro i hi;rcases(show i=0\/i=1\/i=2 by omega)with rfl|rfl|rfl<;>exact⟨by decide,by decide,by decide,by decide +kernel,by decide⟩
theorem ao3[bV](p:aF)(rec:List Nd->BY)(h b:List Nd):H9 p rec ⟨none,h,some b⟩=H8 p ⟨none,h,some b⟩ b:=rfl
theorem aoy[bV](hd:KD9)(root:BY)(rec:List Nd->BY):∀(l:List KR9),(∀x∈l,x.ok)->cat ((l.map (fun x=>(⟨none,kQ9 aA x.s,some (nK9 x)⟩:Rule))).map (H9 (Q9 root) rec))=CY root l
 |[],_=>rfl
 |x::l,h=>by have ih:=aoy hd root rec l (fun y hy=>h y (by simp[hy]));have hx:=h x Aa;have hy:=apm hx hd root (kQ9 aA x.s) (hd.rd0 x.s hx.1);rw[List.map_cons,List.map_cons];show H9 (Q9 root) rec ⟨none,kQ9 aA x.s,some (nK9 x)⟩++cat _=wpK root x++CY root l;rw[ao3,hy,ih]
theorem aoI[bV](hd:KD9){i:Nat}(hi:i<3)(l:List KR9)(h:∀x∈l,x.ok)(hl:l.length<=8):dR (CY aA l) (Q9 (rX i))=(CY (rX i) l,0):=by
 obtain⟨r1,r2⟩:=anY hd (root:=aA) Ab (fun c hc=>by cases hc) hd.d7 l h;have hz:=QZ aA Ab l h;have key:∀rec,cat ((KR (CY aA l)).map (H9 (Q9 (rX i)) rec))=CY (rX i) l:=by intro rec;rw[r2];exact aoy hd (rX i) rec l h
 have hp:=(anO i hi).2.2.2.1;clear r2 hd;unfold dR;unfold KR at key;generalize CY (rX i) l=want at *;generalize CY aA l=sh at *;generalize Q9 (rX i)=pl at *;rw[if_neg (by rw[hp];decide),if_neg oo,if_neg oo];generalize depth (bH sh)=f at *;cases f with
 |zero=>unfold tY;rw[key]
 |succ f=>unfold tY;rw[key]
def htm:BY:=⟨#[104,116,109,108]⟩
theorem apD{j:Nat}(hj:j<14):∃y c q,kC9 j=(0,y::c)::q/\okF y=true:=by
 have:=List.all_eq_true.1 apU j (List.mem_range.2 hj);unfold ap2 at this;split at this
 .rename_i y c q e;exact⟨y,c,q,e,this⟩
 .cases this
theorem ao4(F:lI){p:aI}{i:Nat}(hi:i<3){x:Elem}(h0:p[0]?=some x)(ht:x.tag=htm)(apE:x.id=aA)(hc:x.classes=[rX i]){y:Simple}(hy:okF y=true):∀n,(Me F p n y).testBit 0=false:=by
 obtain⟨k,nm,how,v,l,pl⟩:=y;have key:∀L,(NQ F p L k nm how v l pl).testBit 0=false:=by
  intro L;unfold okF at hy;simp only[Bool.or_eq_true,Bool.and_eq_true,decide_eq_true_eq]at hy;have hb:∀(T:Elem->Bool),T x=false->(jq (TQ p T) p.length).testBit 0=false:=by intro T hT;rw[yC];unfold TQ;rw[h0];simp only[hT,Bool.and_false]
  unfold NQ;rcases hy with (⟨rfl,h2⟩|⟨rfl,rfl⟩)|⟨rfl,rfl⟩
  .rw[if_pos oo];unfold onS;rw[if_pos rfl];have h3:nm≠aA/\htm≠nm:=by rcases h2 with rfl|rfl|rfl|rfl<;>decide
   rw[if_neg h3.1];exact hb _ (by rw[ht];exact decide_eq_false h3.2)
  .rw[if_pos oo];unfold onS;rw[if_neg (by decide),if_neg (by decide)];refine hb _ ?_;rw[hc];rcases(show i=0\/i=1\/i=2 by omega)with rfl|rfl|rfl<;>decide
  .rw[if_pos oo];unfold onS;rw[if_neg (by decide),if_pos rfl];exact hb _ (by rw[apE];decide)
 intro n;cases n with
 |zero=>unfold Me;rw[DN];exact key _
 |succ n=>unfold Me;rw[DN];exact key _
theorem aoz[bV](hd:KD9)(F:lI){p:aI}{i:Nat}(hi:i<3){x:Elem}(h0:p[0]?=some x)(ht:x.tag=htm)(apE:x.id=aA)(hc:x.classes=[rX i]):∀(l:List KR9),(∀y∈l,y.ok)->Two (Kin F p (rX i)) (l.map (fun y=>⟨none,kQ9 aA y.s,some (nK9 y)⟩)) (l.map (fun y=>⟨none,kQ9 (rX i) y.s,some (nK9 y)⟩))
 |[],_=>trivial
 |y::l,h=>by refine⟨⟨rfl,rfl,rfl,hd.dp i y.s hi (h y Aa).1,?_⟩,aoz hd F hi h0 ht apE hc l fun z hz=>h z (by simp[hz])⟩;obtain⟨a,c,q,e,ho⟩:=apD (h y Aa).1;have h1:=hd.rd0 _ (h y Aa).1;have h2:=hd.rd i _ hi (h y Aa).1;rw[e]at h1 h2;unfold Ot at h1 h2;exact⟨a::c,q,h1,h2,a,by simp,ao4 F hi h0 ht apE hc ho _⟩
end
end Go.Proofs.YtlliliddljkbfaaGreat
namespace Go.Proofs.YtlliliddljkbfaaGreat
open Go.RowKit Go.Conc Sp
end Go.Proofs.YtlliliddljkbfaaGreat
namespace Go.Proofs.YtlliliddljkbfaaGreat
open Go.Proofs.Tryz (prog)
open Go.RowKit Sp
section
theorem TI(c:Int)(n:Nat)(w:WD)(h: -9223372036854775808<=c/\c<=9223372036854775807)(hn:1<=n/\n<=1000):Calls prog 14 #[.int .i64 c,.int .i64 (n:Int)] w fun e w'=>e=.returned (.int .i64 (bK c n:Int))/\w'=w:=by
 have hp:=Dz c n;have h1:¬((n:Int)=0):=oo;have h2:¬((n:Int) = -1):=oo;by_cases h0:c<0
 .rw[if_pos h0]at hp;have hp':Int.tmod (-(c+1)) (n:Int)=(bK c n:Int):=hp;go_in;go_wp2_with fail;go_ret;exact⟨rfl,rfl⟩
 .rw[if_neg h0]at hp;have hp':Int.tmod c (n:Int)=(bK c n:Int):=hp;go_in;go_wp2_with fail;go_ret;exact⟨rfl,rfl⟩
section
variable {P:Program} {ops:Array Oper} {Q:Exit->Act->WD->Prop} {md:Region.Mode} {S:WD->Prop}
def uI(P:Program)(ops:Array Oper)(S:WD->Prop)(o:Oper)(v:Av)(a:Act):Prop:=Region.wanted o (yielded ops a.tmps)=true/\∀w,S w->∃f args,(execOp a.eval o).run P w=.ok (.enter f args) w/\Calls P f args w fun e w'=>e=.returned v/\w'=w
theorem uI.same{o:Oper}{v:Av}{a a':Act}(h:uI P ops S o v a)(he:execOp a'.eval o=execOp a.eval o)(hw:Region.wanted o (yielded ops a'.tmps)=Region.wanted o (yielded ops a.tmps)):uI P ops S o v a':=by unfold uI at *;rw[he,hw];exact h
theorem uI.op{i:Nat}{o:Oper}{v:Av}{a:Act}(hi:ops[i]?=some o)(hy:uI P ops S o v a){K:Act->WD->Prop}{w:WD}(hS:S w)(h:K (a.put o.dst v) w):wpOp P ops Q i K a w:=by obtain⟨hw,hv⟩:=hy;obtain⟨f,args,h1,h2⟩:=hv w hS;unfold Go.wpOp;simp only[hi,hw,if_true,Oper.wp,h1,Oper.upon];refine .inl (h2.mono ?_);rintro e w' ⟨rfl,rfl⟩;exact h
theorem uI.beside{j:Nat}{oi oj:Oper}{v:Av}(hj:ops[j]?=some oj)(hap:oi.apart ops oj=true)(hsi:∀cs b,oi.op≠.select cs b)(hsj:∀cs b,oj.op≠.select cs b)
  (hQ:∀c a w,Q (.panic c) (a.put oi.dst v) w->Q (.panic c) a w) {K:Act->WD->Prop}{a:Act}{w:WD} (hy:uI P ops S oi v a) (h:wpOp P ops Q j K (a.put oi.dst v) w):
  wpOp P ops Q j (fun a' w'=>uI P ops S oi v a'/\K (a'.put oi.dst v) w') a w:=by
 obtain⟨h1,h2,h3⟩:=Oper.apart_spec hap;have kp:∀(a:Act),uI P ops S oi v a->∀u,uI P ops S oi v (a.put oj.dst u):=fun a hy u=>hy.same (execOp_put oi hsi a oj.dst u h3) (wanted_put oi a oj.dst u h3);have kd:∀d,uI P ops S oi v { a with defers:=d::a.defers }:=fun d=>hy.same rfl rfl;unfold wpOp at *;simp only[hj]at *;rw[wanted_put oj a oi.dst v h1]at h;by_cases hw:Region.wanted oj (yielded ops a.tmps)=true
 .rw[if_pos hw]at h⊢;rcases h with h|⟨ha,hl⟩
  .left;unfold Oper.wp at *;rw[execOp_put oj hsj a oi.dst v h1]at h;revert h
   cases(execOp a.eval oj).run P w with
   |ok n w'=>
    cases n<;>simp only[Oper.upon]<;>intro h
    case value u=>rw[Act.put_comm a v u h2]at h;exact⟨kp a hy u,h⟩
    case skip=>rw[Act.put_comm a v undef h2]at h;exact⟨kp a hy _,h⟩
    case defer d=>refine⟨kp _ (kd d) _,?_⟩;rw[<-Act.put_comm _ v undef h2,<-Act.put_defers];exact h
    case enter f args=>
     refine Calls.mono h fun e w2 he=>?_;cases e with
     |returned u=>exact⟨kp a hy u,by rw[<-Act.put_comm a v u h2];exact he⟩
     |panicked c=>exact hQ _ _ _ he
     |outgrown=>exact he
    case row row args=>exact Rows.mono h fun u w2 he=>⟨kp a hy u,by rw[<-Act.put_comm a v u h2];exact he⟩
    all_goals exact h
   |halt x w'=>cases x<;>simp only[Oper.upon]<;>intro h<;>first|exact h|exact hQ _ _ _ h
  .right;refine⟨?_,hl⟩;unfold Oper.asks at *;rw[execOp_put oj hsj a oi.dst v h1]at ha;exact ha
 .rw[if_neg hw]at h⊢;rw[Act.put_comm a v undef h2]at h;exact⟨kp a hy _,h⟩
theorem JM{i:Nat}{oi:Oper}{v:Av}(hi:ops[i]?=some oi)(hsel:∀(j:Nat) (o:Oper) cs b,ops[j]?=some o->o.op≠.select cs b)(hQ:∀c a w,Q (.panic c) (a.put oi.dst v) w->Q (.panic c) a w):
  ∀(fuel:Nat) (listed:Array Bool) (a:Act) (w:WD),
   (∀j oj,ops[j]?=some oj->j≠i->listed.getD j true=false->(∀e∈oj.after,Region.binds md e=true->e.on≠i)->oi.apart ops oj=true) ->
   i∈Region.ready md ops listed->uI P ops S oi v a->S w->wpAnyH P md ops Q S fuel (listed.setIfInBounds i true) (a.put oi.dst v) w->wpAnyH P md ops Q S (fuel+1) listed a w
 |0,listed,a,w,_,hr,hy,hS,H=>by
  refine⟨fun h=>(by rw[h]at hr;cases hr),fun j hj=>?_⟩;by_cases hji:j=i
  .subst hji;exact hy.op hi hS ⟨hS,H⟩
  .have:=ready_mono hj hji;rw[H.1]at this;cases this
 |fuel+1,listed,a,w,hfree,hr,hy,hS,H=>by
  refine⟨fun h=>(by rw[h]at hr;cases hr),fun j hj=>?_⟩;by_cases hji:j=i
  .subst hji;exact hy.op hi hS ⟨hS,H⟩
  .obtain⟨hjun,oj,hoj,hall⟩:=mem_ready.1 hj;have hnot:∀e∈oj.after,Region.binds md e=true->e.on≠i:=fun e he hb heq=>by
    have k1:=hall e he hb;have k0:=(mem_ready.1 hr).1;rw[heq]at k1;rcases Nat.lt_or_ge i listed.size with h'|h'
    .simp[h']at k0 k1;rw[k0]at k1;cases k1
    .simp[Array.getElem?_eq_none h']at k1
   refine wpOp_mono (fun a' w' h3=>⟨h3.2.1,?_⟩) (hy.beside hoj (hfree j oj hoj hji hjun hnot) (fun cs b=>hsel i oi cs b hi) (fun cs b=>hsel j oj cs b hoj) hQ (H.2 j (ready_mono hj hji)));refine JM hi hsel hQ fuel (listed.setIfInBounds j true) a' w' (fun k ok hk hki hun hno=>?_) (ready_mono hr (Ne.symm hji)) h3.1 h3.2.1 (by rw[Array.setIfInBounds_comm _ _ hji];exact h3.2.2);refine hfree k ok hk hki ?_ hno;by_cases hjk:j=k
   .subst hjk;exact hjun
   .rw[getD_set_ne true hjk]at hun;exact hun
end
theorem tkT{P:Program}{ops:Array Oper}{Q:Exit->Act->WD->Prop}{md:Region.Mode}{S:WD->Prop}(i:Nat){oi:Oper}{v:Av}{fuel:Nat}{listed:Array Bool}{a a':Act}{w:WD}
  (hi:ops[i]?=some oi) (hS:S w) (f:FuncId) (args:Array Av) (hy:∀w,S w->(execOp a.eval oi).run P w=.ok (.enter f args) w) (hc:∀w,S w->Calls P f args w fun e w'=>e=.returned v/\w'=w)
  (h:wpAnyH P md ops Q S fuel (listed.setIfInBounds i true) a' w) (hs:Region.noSelect ops=true:=by kernel_rfl) (hf:Region.free md ops listed i=true:=by kernel_rfl) (hr:(Region.ready md ops listed).contains i=true:=by kernel_rfl)
  (hw:Region.wanted oi (yielded ops a.tmps)=true:=by kernel_rfl)
  (hQ:∀c a w,Q (.panic c) (a.put oi.dst v) w->Q (.panic c) a w:=by exact fun _ _ _ h=>h)
  (ha:a.put oi.dst v=a':=by(try simp only[List.getElem_toArray]);(try simp only[List.getElem_cons_succ]);(try simp only[List.getElem_cons_zero]);(try simp only[Act.put]);(try simp only[List.setIfInBounds_toArray]);(try simp only[List.set_cons_succ]);(try simp only[List.set_cons_zero]);all_goals with_reducible rfl):wpAnyH P md ops Q S (fuel+1) listed a w:=by
 subst ha;exact JM hi (Region.noSelect_spec hs) hQ fuel listed a w (Region.free_spec hi hf) (by simpa using hr) ⟨hw,fun w hSw=>⟨f,args,hy w hSw,hc w hSw⟩⟩ hS h
end
structure XF where
 parent:Int
 tag:Int
 id:Int
 cls:Int
 attr:Int
def Ql(x:Int):Prop:=-9223372036854775808<=x/\x<=9223372036854775807
def XG(B:Nat)(w:WD)(a:Option Addr)(n:Nat)(f:Nat->XF):Prop:=
 n<=9223372036854775807/\∀i,i<n->i<29->∃g o,a=some ⟨g,o,none⟩/\g<B /\
  (w.cell? ⟨g,o+i*5,none⟩=some (.int .i64 (f i).parent)/\w.cell? ⟨g,o+i*5+1,none⟩=some (.int .i64 (f i).tag)/\w.cell? ⟨g,o+i*5+2,none⟩=some (.int .i64 (f i).id)/\w.cell? ⟨g,o+i*5+3,none⟩=some (.int .i64 (f i).cls)/\w.cell? ⟨g,o+i*5+4,none⟩=some (.int .i64 (f i).attr)) /\
  Ql (f i).parent/\Ql (f i).tag/\Ql (f i).id/\Ql (f i).cls/\Ql (f i).attr
theorem XG.below{B B':Nat}{w w':WD}{a:Option Addr}{n:Nat}{f:Nat->XF}(h:XG B w a n f)(hb:Below B' w w')(hB:B<=B'):XG B w' a n f:=by refine⟨h.1,fun i hi h29=>?_⟩;obtain⟨g,o,h1,h2,⟨c0,c1,c2,c3,c4⟩,h4⟩:=h.2 i hi h29;have e:∀k,w'.cell? ⟨g,k,none⟩=w.cell? ⟨g,k,none⟩:=fun k=>World.cell?_of_block (w:=w) (hb.block g oo);exact⟨g,o,h1,h2,⟨(e _).trans c0,(e _).trans c1,(e _).trans c2,(e _).trans c3,(e _).trans c4⟩,h4⟩
def E5(w:WD)(b:Nat)(x0 x1 x2 x3 x4:Av):Prop:=w.heap[b]?=some (.cells #[x0,x1,x2,x3,x4] 35 (0,0))
def Gj:Nat->BY
 |0=>⟨#[112]⟩
 |1=>⟨#[100,105,118]⟩
 |2=>⟨#[98]⟩
 |_=>⟨#[97]⟩
theorem E5.cs{w:WD}{b:Nat}{x0 x1 x2 x3 x4:Av}(h:E5 w b x0 x1 x2 x3 x4):w.cell? ⟨b,0,none⟩=some x0/\w.cell? ⟨b,1,none⟩=some x1/\w.cell? ⟨b,2,none⟩=some x2/\w.cell? ⟨b,3,none⟩=some x3/\w.cell? ⟨b,4,none⟩=some x4:=⟨(cells_at h 0).trans rfl,(cells_at h 1).trans rfl,(cells_at h 2).trans rfl,(cells_at h 3).trans rfl,(cells_at h 4).trans rfl⟩
theorem E5.fz{w:WD}{b:Nat}{x0 x1 x2 x3 x4:Av}(h:E5 w b x0 x1 x2 x3 x4)(k:Nat):w.frozen? ⟨b,k,none⟩=false:=by have h':w.heap[b]?=_:=h;unfold World.frozen?;rw[h'];simp
theorem E5.set{w w':WD}{b:Nat}{x0 x1 x2 x3 x4 y0 y1 y2 y3 y4:Av}(h:E5 w b x0 x1 x2 x3 x4)(e:((((w.setCell ⟨b,0,none⟩ y0).setCell ⟨b,1,none⟩ y1).setCell ⟨b,2,none⟩ y2).setCell ⟨b,3,none⟩ y3).setCell ⟨b,4,none⟩ y4=w'):
  E5 w' b y0 y1 y2 y3 y4/\(∀q,q≠b->w'.heap[q]?=w.heap[q]?)/\Below b w w':=by
 subst e;have h1:=bQ w b 0 _ _ _ y0 h;have h2:=bQ _ b 1 _ _ _ y1 h1;have h3:=bQ _ b 2 _ _ _ y2 h2;have h4:=bQ _ b 3 _ _ _ y3 h3;have h5:=bQ _ b 4 _ _ _ y4 h4;refine⟨h5,fun q hq=>?_,?_⟩
 .rw[Below.heap_setCell _ _ _ _ hq,Below.heap_setCell _ _ _ _ hq,Below.heap_setCell _ _ _ _ hq,Below.heap_setCell _ _ _ _ hq,Below.heap_setCell _ _ _ _ hq]
 .have hlt:b<=b:=Nat.le_refl _;exact(((((Below.refl b w).setCell (p:=⟨b,0,none⟩) hlt _).setCell (p:=⟨b,1,none⟩) hlt _).setCell (p:=⟨b,2,none⟩) hlt _).setCell (p:=⟨b,3,none⟩) hlt _).setCell (p:=⟨b,4,none⟩) hlt _
theorem E5.set1{w w':WD}{b:Nat}{x0 x1 x2 x3 x4:Av}(h:E5 w b x0 x1 x2 x3 x4)(k:Nat)(u:Av)(e:w.setCell ⟨b,k,none⟩ u=w'):w'.heap[b]?=some (.cells ((#[x0,x1,x2,x3,x4]:Array Av).setIfInBounds k u) 35 (0,0))/\(∀q,q≠b->w'.heap[q]?=w.heap[q]?)/\Below b w w':=by subst e;exact⟨bQ w b k _ _ _ u h,fun q hq=>Below.heap_setCell _ _ _ _ hq,(Below.refl b w).setCell (p:=⟨b,k,none⟩) nl _⟩
theorem E5.lt{w:WD}{b:Nat}{x0 x1 x2 x3 x4:Av}(h:E5 w b x0 x1 x2 x3 x4):b<w.heap.size:=(Ax h)
theorem E5.alloc{w:WD}{b:Nat}{x0 x1 x2 x3 x4:Av}(h:E5 w b x0 x1 x2 x3 x4)(ob:Obj):E5 (w.alloc ob) b x0 x1 x2 x3 x4:=by unfold E5;rw[Below.heap_alloc _ _ _ h.lt];exact h
def FrB(base b:Nat)(w:WD)(q:Nat):Prop:=base<=q/\q<w.heap.size/\q≠b
theorem ahh{w:WD}{n base b:Nat}{s:BY}(h:w.heap[n]?=some (.cells #[.string s] 9 (0,0)))(hb:base<=n)(hn:n≠b)(hs:s.size<=100):SG eX 1 (FrB base b w) w (.slice (some ⟨n,0,none⟩) 1 1) [s]:=
 ⟨_,_,rfl,⟨Nat.le_refl _,by simp⟩,fun _=>⟨n,0,rfl,⟨⟨hb,(Ax h),hn⟩,[.string s],⟨rfl,oo⟩,fun j u hu=>by rw[Nat.zero_add,cells_at h];simpa using hu⟩,trivial⟩⟩
theorem ahi{w:WD}{n base b:Nat}{s t:BY}(h:w.heap[n]?=some (.cells #[.string s,.string t] 96 (0,0)))(hb:base<=n)(hn:n≠b)(hs:s.size<=100)(ht:t.size<=100):SG qH 2 (FrB base b w) w (.slice (some ⟨n,0,none⟩) 1 1) [(s,t)]:=
 ⟨_,_,rfl,⟨Nat.le_refl _,by simp⟩,fun _=>⟨n,0,rfl,⟨⟨hb,(Ax h),hn⟩,[.string s,.string t],⟨rfl,Nat.le_trans hs oo,Nat.le_trans ht oo⟩,fun j u hu=>by rw[Nat.zero_add,cells_at h];simpa using hu⟩,trivial⟩⟩
theorem E5.put{w W:WD}{b base:Nat}{x0 x1 x2 x3 x4:Av}(h:E5 w b x0 x1 x2 x3 x4)(k:Nat)(u:Av)(R O:Obj)(hb:base<=b)(hB:base<=w.heap.size)(e:((w.setCell ⟨b,k,none⟩ u).alloc R).alloc O=W):
  W.heap[b]?=some (.cells ((#[x0,x1,x2,x3,x4]:Array Av).setIfInBounds k u) 35 (0,0))/\W.heap[w.heap.size+1]?=some O/\Below base w W/\(∀q,q<w.heap.size->q≠b->W.heap[q]?=w.heap[q]?)/\W.heap.size=w.heap.size+2:=by
 subst e;have hs:(w.setCell ⟨b,k,none⟩ u).heap.size=w.heap.size:=by simp[World.setCell]
 have hs2:((w.setCell ⟨b,k,none⟩ u).alloc R).heap.size=w.heap.size+1:=by simp[hs]
 have hlt:=h.lt;refine⟨?_,?_,?_,fun q hq hqb=>?_,by simp[hs]⟩
 .rw[Below.heap_alloc _ _ _ oo,Below.heap_alloc _ _ _ oo];exact bQ w b k _ _ _ u h
 .rw[<-hs2];exact heap_alloc_new _ _
 .exact(((Below.refl base w).setCell (p:=⟨b,k,none⟩) hb _).alloc oo _).alloc oo _
 .rw[Below.heap_alloc _ _ _ oo,Below.heap_alloc _ _ _ oo];exact Below.heap_setCell _ _ _ _ hqb
theorem E5.am0{w W:WD}{b base:Nat}{x0 x1 x2 x3 x4:Av}(h:E5 w b x0 x1 x2 x3 x4)(k:Nat)(u:Av)(R O:Obj)(hb:base<=b)(hB:base<=w.heap.size)(e:((w.alloc R).alloc O).setCell ⟨b,k,none⟩ u=W):
  W.heap[b]?=some (.cells ((#[x0,x1,x2,x3,x4]:Array Av).setIfInBounds k u) 35 (0,0))/\W.heap[w.heap.size+1]?=some O/\Below base w W/\(∀q,q<w.heap.size->q≠b->W.heap[q]?=w.heap[q]?)/\W.heap.size=w.heap.size+2:=by
 subst e;have hs2:(w.alloc R).heap.size=w.heap.size+1:=by simp
 have hlt:=h.lt;have hE:E5 ((w.alloc R).alloc O) b x0 x1 x2 x3 x4:=(h.alloc R).alloc O;refine⟨bQ _ b k _ _ _ u hE,?_,?_,fun q hq hqb=>?_,by simp[World.setCell]⟩
 .rw[Below.heap_setCell _ _ _ _ (show w.heap.size+1≠b by omega),<-hs2];exact heap_alloc_new _ _
 .exact(((Below.refl base w).alloc oo _).alloc oo _).setCell (p:=⟨b,k,none⟩) hb _
 .rw[Below.heap_setCell _ _ _ _ hqb,Below.heap_alloc _ _ _ oo,Below.heap_alloc _ _ _ oo]
theorem alP(w:WD)(x0 x1 x2 x3 x4:Av)(T:TypeId):∀j u,[x0,x1,x2,x3,x4][j]?=some u->(w.alloc (.cells #[x0,x1,x2,x3,x4] T)).cell? ((⟨w.heap.size,0,none⟩:Addr).add j)=some u:=by
 intro j u hu;have e:=heap_alloc_new w (.cells #[x0,x1,x2,x3,x4] T);have e2:(⟨w.heap.size,0,none⟩:Addr).add j=⟨w.heap.size,j,none⟩:=by rw[Addr.add_lit,Nat.zero_add]
 rw[e2,cells_at e];simpa using hu
theorem ahj:∃i,prog.info? 35=some i/\i.zero=some (.agg #[.int .i64 0,.string ⟨#[]⟩,.string ⟨#[]⟩,.slice none 0 0,.slice none 0 0])/\i.size=5/\i.bytes=88:=info_parts An
theorem JZ:∀(d:aI) (k:Nat) (x:Elem),gI k d=true->xC (k+d.length) x=true->gI k (d++[x])=true
 |[],k,x,_,h=>by simpa[gI]using h
 |y::r,k,x,h,hx=>by simp only[gI,Bool.and_eq_true]at h;rw[List.cons_append];simp only[gI,Bool.and_eq_true];exact⟨h.1,JZ r (k+1) x h.2 (by rw[List.length_cons]at hx;rw[show k+1+r.length=k+(r.length+1) by omega];exact hx)⟩
theorem ahk(k:Nat):nameP (Gj k)=true/\Gj k≠aA/\(Gj k).size<=100:=by unfold Gj;split<;>decide
theorem fU{w w':WD}{ad:Addr}{u:Av}(hb:Below w.heap.size w w')(h:w.cell? ad=some u):w'.cell? ad=some u:=(World.cell?_of_block (w:=w) (hb.block ad.block (World.block_lt_of_cell? w _ h))).trans h
theorem ND{w:WD}{b:Nat}(h:w.heap[b]?=some (.cells #[.string ⟨#[112]⟩,.string ⟨#[100,105,118]⟩,.string ⟨#[98]⟩,.string ⟨#[97]⟩] 9 (0,0)))(i:Nat)(hi:i<4):w.cell? ⟨b,i,none⟩=some (.string (Gj i)):=by rw[cells_at h];rcases(show i=0\/i=1\/i=2\/i=3 by omega)with rfl|rfl|rfl|rfl<;>rfl
def alQ:Elem:=⟨-1,⟨#[104,116,109,108]⟩,⟨#[]⟩,[],[]⟩
def pgI(d:aI):Prop:=gI 0 d=true/\d[0]?=some alQ
theorem ajY(n:Nat)(f:Nat->XF)(a:Option Addr)(cap:Nat)(B:Nat)(w:WD)(h:XG B w a n f)(hB:B<=w.heap.size):
  Calls prog 22 #[.slice a n cap] w fun e w'=>∃(u:Av) (d:aI),e=.returned u/\MG wO 5 35 w.heap.size w' u d/\iL d=true/\(d.length=min n 29+1/\d[0]?=some alQ)/\Below w.heap.size w w':=by
 have hl:=h.1;have HS:=hid h;clear h;obtain⟨iT,hiT⟩:=ahj;have HI:Hid (prog.info? 35=some iT/\iT.zero=some (.agg #[.int .i64 0,.string ⟨#[]⟩,.string ⟨#[]⟩,.slice none 0 0,.slice none 0 0])/\iT.size=5/\iT.bytes=88):=hiT;clear hiT;go_in;go_wp2_with fail;go_loopg[3,4] n (fun gg v3 v4 wr=>∃(u:Av) (i:Nat) (d:aI),u=v3/\v4=.int .i64 (i:Int)/\i+gg=n/\i<=29/\d.length=i+1/\Aside (MG wO 5 35 w.heap.size wr u d/\pgI d/\Below w.heap.size w wr));case atStart=>refine⟨_,0,[⟨-1,⟨#[104,116,109,108]⟩,⟨#[]⟩,[],[]⟩],rfl,rfl,oo,oo,rfl,⟨_,World.ownsRow_lit w _ 1 nl Ao rfl,?_⟩,⟨by decide,rfl⟩,As.alloc nl _⟩;exact⟨_,[],(List.append_nil _).symm,⟨_,_,rfl,SG.iE _ _ _ _ _ _,SG.iE _ _ _ _ _ _,by decide,by decide,by decide,by decide⟩,rfl⟩
 case round=>
  obtain⟨u,i,d,rfl,rfl,hi,anA,hdl,hA⟩:=hrel;have HC:=hid hA.o;clear hA;have hsr:=HC.o.2.2.size;by_cases hlt:i<n
  .have h1:(i:Int)<(n:Int):=oo;by_cases h29:i<29
   .have h2:(i:Int)<29:=oo;obtain⟨g,o,rfl,hgB,⟨c0,c1,c2,c3,c4⟩,k0,k1,k2,k3,k4⟩:=(HS.o.below HC.o.2.2 hB).2 i hlt h29;obtain⟨x,Hx⟩:=Nm (f i);rw[Hx.o]at c0 c1 c2 c3 c4 k0 k1 k2 k3 k4;obtain⟨ua,uc,hu⟩:=HC.o.1.form;subst hu;rw[hdl]at HC⊢;have lp:=jJ x.parent (n:=i+1) oo;have lt4:=jJ x.tag (n:=4) oo;have anB:(bK x.tag 4:Int)<4:=oo;go_upto_region 5 with fail
    go_cut [5] (fun s5 wx=>∃(b:Nat) (pr:Nat) (k:Nat),s5=.pointer (some ⟨b,0,none⟩)/\wr.heap.size<=b/\pr<i+1/\Aside (E5 wx b (.int .i64 (pr:Int)) (.string (Gj k)) (.string ⟨#[]⟩) (.slice none 0 0) (.slice none 0 0)/\Below wr.heap.size wr wx));case first=>
     refine wp_region_any An ?_;change wpAny _ _ _ _ _ _ _ (World.drew _);obtain⟨wz,hwz⟩:∃x,World.drew wr=x:=⟨_,rfl⟩;have hz:Below wr.heap.size wr wz:=by rw[<-hwz];exact As.drew
     have HZ:Hid (wz.cell? ⟨g,o+i*5,none⟩=some (.int .i64 x.parent)/\wz.cell? ⟨g,o+i*5+1,none⟩=some (.int .i64 x.tag)):=by rw[<-hwz];exact⟨c0,c1⟩
     have BZ:=hid hz;rw[hwz];clear hwz hz c0 c1 c2 c3 c4;refine wpAny_of_held (S:=fun wx=>wx.cell? ⟨g,o+i*5,none⟩=some (.int .i64 x.parent)/\wx.cell? ⟨g,o+i*5+1,none⟩=some (.int .i64 x.tag)) _ _ _ _ ?_;refine dH 0 rfl HZ.o (by intro w hSw;obtain⟨r0,r1⟩:=hSw;exact gs) ?_;refine dH 1 rfl HZ.o (by intro w hSw;obtain⟨r0,r1⟩:=hSw;exact gs) ?_;refine dH 2 rfl HZ.o (by intro w hSw;obtain⟨r0,r1⟩:=hSw;exact gs) ?_;refine dH 3 rfl HZ.o (by intro w hSw;obtain⟨r0,r1⟩:=hSw;exact gs) ?_;refine dH 4 rfl HZ.o (by intro w hSw;obtain⟨r0,r1⟩:=hSw;exact gs) ?_;refine dH 5 rfl HZ.o (by intro w hSw;obtain⟨r0,r1⟩:=hSw;exact gs) ?_
     refine dH 6 rfl HZ.o (by intro w hSw;obtain⟨r0,r1⟩:=hSw;exact gs) ?_;refine dH 9 rfl HZ.o (by intro w hSw;obtain⟨r0,r1⟩:=hSw;exact gs) ?_;refine dH 10 rfl HZ.o (by intro w hSw;obtain⟨r0,r1⟩:=hSw;exact gs) ?_;refine dH 11 rfl HZ.o (by intro w hSw;obtain⟨r0,r1⟩:=hSw;exact gs) ?_;refine dH 12 rfl HZ.o (by intro w hSw;obtain⟨r0,r1⟩:=hSw;exact gs) ?_;refine dH 13 rfl HZ.o (by intro w hSw;obtain⟨r0,r1⟩:=hSw;exact gs) ?_;refine tkT 7 rfl HZ.o 14 #[.int .i64 x.parent,.int .i64 ((i+1:Nat):Int)] (by intro w hSw;exact gs) (fun w _=>TI x.parent (i+1) w k0 ⟨oo,oo⟩) ?_
     refine tkT 14 rfl HZ.o 14 #[.int .i64 x.tag,.int .i64 ((4:Nat):Int)] (by intro w hSw;exact gs) (fun w _=>TI x.tag 4 w k1 ⟨oo,oo⟩) ?_;obtain⟨m,Hm⟩:=Nm wz.heap.size;have hgz:g<m:=by rw[<-Hm.o];exact World.block_lt_of_cell? wz _ HZ.o.1
     have hmz:wr.heap.size<=m:=by rw[<-Hm.o];exact BZ.o.size
     refine wpAnyH_ready (rs:=[8,18]) An Aa (AllReadyH.cons rfl (fun K hK=>?_) (AllReadyH.cons rfl (fun K hK=>?_) AllReadyH.nil))
     .go_simp;generalize hw1:World.alloc _ _=w1;obtain⟨q1,hq1⟩:=qy hw1;have hs1:w1.heap.size=m+1:=by rw[<-hw1];simp[Hm.o]
      rw[Hm.o]at q1;have Z1:Hid (w1.cell? ⟨g,o+i*5,none⟩=some (.int .i64 x.parent)/\w1.cell? ⟨g,o+i*5+1,none⟩=some (.int .i64 x.tag)):=⟨fU hq1 HZ.o.1,fU hq1 HZ.o.2⟩;have B1:=hid (Ay BZ.o hq1);have T1:Hid (w1.cell? ⟨m,bK x.tag 4,none⟩=some (.string (Gj (bK x.tag 4)))):=ND q1 _ lt4;refine hK.o _ _ Z1.o (fun _=>?_);rw[Hm.o];clear hK K hw1 q1 hq1;refine dH 15 rfl Z1.o (fun _ _=>gs) ?_;refine wpAnyH_ready (rs:=[16,18]) An Aa (AllReadyH.cons rfl (fun K hK=>?_) (AllReadyH.cons rfl (fun K hK=>?_) AllReadyH.nil));focus
       have t1:=T1.o;go_simp;refine hK.o _ _ Z1.o (fun _=>?_);clear hK K t1;refine dH 17 rfl Z1.o (fun _ _=>gs) ?_;refine iW 18 fun K hK=>?_;go_simp;generalize hw:World.alloc _ _=w2;obtain⟨q,hq⟩:=qy hw;have hs2:w2.heap.size=m+1+1:=by rw[<-hw];simp[hs1]
       rw[hs1]at q;have Z2:Hid (w2.cell? ⟨g,o+i*5,none⟩=some (.int .i64 x.parent)/\w2.cell? ⟨g,o+i*5+1,none⟩=some (.int .i64 x.tag)):=⟨fU hq Z1.o.1,fU hq Z1.o.2⟩;have B2:=hid (Ay B1.o hq);have EE:Hid (E5 w2 (m+1) (.int .i64 0) (.string ⟨#[]⟩) (.string ⟨#[]⟩) (.slice none 0 0) (.slice none 0 0)):=q;refine hK.o _ _ Z2.o (fun _=>?_);try rw[hs1]
       clear hK K hw q hq
      rotate_left;focus
       go_simp;generalize hw:World.alloc _ _=w2;obtain⟨q,hq⟩:=qy hw;have hs2:w2.heap.size=m+1+1:=by rw[<-hw];simp[hs1]
       rw[hs1]at q;have Z2:Hid (w2.cell? ⟨g,o+i*5,none⟩=some (.int .i64 x.parent)/\w2.cell? ⟨g,o+i*5+1,none⟩=some (.int .i64 x.tag)):=⟨fU hq Z1.o.1,fU hq Z1.o.2⟩;have B2:=hid (Ay B1.o hq);have EE:Hid (E5 w2 (m+1) (.int .i64 0) (.string ⟨#[]⟩) (.string ⟨#[]⟩) (.slice none 0 0) (.slice none 0 0)):=q;have t2:=fU hq T1.o;refine hK.o _ _ Z2.o (fun _=>?_);try rw[hs1]
       clear hK K hw q hq;refine iW 16 fun K hK=>?_;go_simp;refine hK.o _ _ Z2.o (fun _=>?_);clear hK K t2;refine dH 17 rfl Z2.o (fun _ _=>gs) ?_
      rotate_left;all_goals
       obtain⟨e0,e1,e2,e3,e4⟩:=EE.o.cs;have f0:=EE.o.fz 0;have f1:=EE.o.fz 1;have f2:=EE.o.fz 2;have f3:=EE.o.fz 3;have f4:=EE.o.fz 4;refine iW 19 fun K hK=>?_;go_simp;generalize hw5:World.setCell _ _ _=w5;obtain⟨hE,ho,hb5⟩:=EE.o.set hw5;have B5:=hid (B2.o.trans (hb5.mono oo));have HE:=hid hE;have hgm:g≠m+1:=by have:=hgz;omega
       refine hK.o _ _ ⟨(World.cell?_of_block (w:=w2) (ho g hgm)).trans Z2.o.1,(World.cell?_of_block (w:=w2) (ho g hgm)).trans Z2.o.2⟩ (fun _=>?_);clear hK K hw5 e0 e1 e2 e3 e4 f0 f1 f2 f3 f4 hE ho hb5;refine wpAnyH_done An ?_ _;go_wp2_with fail;go_meet
       exact⟨m+1,bK x.parent (i+1),bK x.tag 4,rfl,oo,lp,HE.o,B5.o⟩
     .go_simp;generalize hw:World.alloc _ _=w1;obtain⟨q,hq⟩:=qy hw;have hs1:w1.heap.size=m+1:=by rw[<-hw];simp[Hm.o]
      rw[Hm.o]at q;have Z1:Hid (w1.cell? ⟨g,o+i*5,none⟩=some (.int .i64 x.parent)/\w1.cell? ⟨g,o+i*5+1,none⟩=some (.int .i64 x.tag)):=⟨fU hq HZ.o.1,fU hq HZ.o.2⟩;have B1:=hid (Ay BZ.o hq);have EE:Hid (E5 w1 (m) (.int .i64 0) (.string ⟨#[]⟩) (.string ⟨#[]⟩) (.slice none 0 0) (.slice none 0 0)):=q;refine hK.o _ _ Z1.o (fun _=>?_);rw[Hm.o];clear hK K hw q hq;refine iW 8 fun K hK=>?_;go_simp;generalize hw:World.alloc _ _=w2;obtain⟨q,hq⟩:=qy hw;rw[hs1]at q;have Z2:Hid (w2.cell? ⟨g,o+i*5,none⟩=some (.int .i64 x.parent)/\w2.cell? ⟨g,o+i*5+1,none⟩=some (.int .i64 x.tag)):=⟨fU hq Z1.o.1,fU hq Z1.o.2⟩;have B2:=hid (Ay B1.o hq);have T2:Hid (w2.cell? ⟨m+1,bK x.tag 4,none⟩=some (.string (Gj (bK x.tag 4)))):=ND q _ lt4
      have EE:Hid (E5 w2 m (.int .i64 0) (.string ⟨#[]⟩) (.string ⟨#[]⟩) (.slice none 0 0) (.slice none 0 0)):=by unfold E5;exact(hq.block m oo).trans EE.o
      refine hK.o _ _ Z2.o (fun _=>?_);try rw[hs1]
      clear hK K hw q hq;refine dH 15 rfl Z2.o (fun _ _=>gs) ?_;have t2:=T2.o;refine iW 16 fun K hK=>?_;go_simp;refine hK.o _ _ Z2.o (fun _=>?_);clear hK K t2;refine dH 17 rfl Z2.o (fun _ _=>gs) ?_;obtain⟨e0,e1,e2,e3,e4⟩:=EE.o.cs;have f0:=EE.o.fz 0;have f1:=EE.o.fz 1;have f2:=EE.o.fz 2;have f3:=EE.o.fz 3;have f4:=EE.o.fz 4;refine iW 19 fun K hK=>?_;go_simp;generalize hw5:World.setCell _ _ _=w5;obtain⟨hE,ho,hb5⟩:=EE.o.set hw5;have B5:=hid (B2.o.trans (hb5.mono oo));have HE:=hid hE;have hgm:g≠m:=by have:=hgz;omega
      refine hK.o _ _ ⟨(World.cell?_of_block (w:=w2) (ho g hgm)).trans Z2.o.1,(World.cell?_of_block (w:=w2) (ho g hgm)).trans Z2.o.2⟩ (fun _=>?_);clear hK K hw5 e0 e1 e2 e3 e4 f0 f1 f2 f3 f4 hE ho hb5;refine wpAnyH_done An ?_ _;go_wp2_with fail;go_meet
      exact⟨m,bK x.parent (i+1),bK x.tag 4,rfl,oo,lp,HE.o,B5.o⟩
    case rest=>
     obtain⟨b,pr,kt,rfl,hbr,hpr,hA⟩:=hcut;have HE:=hid hA.o;clear hA;have d2:=fU HE.o.2 c2;have d3:=fU HE.o.2 c3;have d4:=fU HE.o.2 c4;have HN:=hid (And.intro c2 (And.intro c3 c4));clear c0 c1 c2 c3 c4;obtain⟨ki,Hki⟩:=Nm (bK x.id 8);have hki:ki<8:=by rw[<-Hki.o];exact jJ _ oo
     have PI:Hid (∀w,Calls prog 14 #[.int .i64 x.id,.int .i64 8] w fun e w'=>e=.returned (.int .i64 (ki:Int))/\w'=w):=fun w=>by have:=TI x.id 8 w k2 ⟨oo,oo⟩;rw[Hki.o]at this;exact this
     go_wp2_with fail;refine pmb (PI.o _) fun wq hwq=>?_;rw[hwq];clear hwq;go_upto_if 44 with fail;go_cut [6] (fun s6 wy=>∃(id:BY),nameP id=true/\Aside (E5 wy b (.int .i64 (pr:Int)) (.string (Gj kt)) (.string id) (.slice none 0 0) (.slice none 0 0)/\Below wr.heap.size wr wy));case first=>
      by_cases h3:ki<3
      .have h3':(ki:Int)<3:=oo;have EA:=hid (HE.o.1.alloc (.cells #[.string ⟨#[97]⟩,.string ⟨#[98]⟩,.string ⟨#[98,111,120]⟩] 9));have BA:=hid (HE.o.2.alloc HE.o.2.size (.cells #[.string ⟨#[97]⟩,.string ⟨#[98]⟩,.string ⟨#[98,111,120]⟩] 9));obtain⟨e0,e1,e2,e3,e4⟩:=EA.o.cs;have f2:=EA.o.fz 2;rcases(show ki=0\/ki=1\/ki=2 by omega)with rfl|rfl|rfl;all_goals
        go_wp2_with fail;go_meet
        exact⟨_,by decide,(EA.o.set1 2 _ rfl).1,BA.o.setCell hbr _⟩
      .have h3':(3:Int)<=(ki:Int):=oo;go_wp2_with fail;go_meet
       exact⟨_,by decide,HE.o⟩
     case rest=>
      obtain⟨id,ahl,hA⟩:=hcut;have HE2:=hid hA.o;clear hA d2 d3 d4 HE;have d3:=fU HE2.o.2 HN.o.2.1;have d4:=fU HE2.o.2 HN.o.2.2;obtain⟨kc,Hkc⟩:=Nm (bK x.cls 8);have hkc:kc<8:=by rw[<-Hkc.o];exact jJ _ oo
      have PC:Hid (∀w,Calls prog 14 #[.int .i64 x.cls,.int .i64 8] w fun e w'=>e=.returned (.int .i64 (kc:Int))/\w'=w):=fun w=>by have:=TI x.cls 8 w k3 ⟨oo,oo⟩;rw[Hkc.o]at this;exact this
      go_wp2_with fail;refine pmb (PC.o _) fun wq hwq=>?_;rw[hwq];clear hwq;go_upto_if 57 with fail;go_cut [6] (fun s6 wy=>∃(cv:Av) (cl:List BY),(cl.all (fun c=>nameP c&&!decide (c=aA))=true/\cl.length<=1)/\Aside (E5 wy b (.int .i64 (pr:Int)) (.string (Gj kt)) (.string id) cv (.slice none 0 0)/\SG eX 1 (FrB wr.heap.size b wy) wy cv cl/\Below wr.heap.size wr wy));case first=>
       by_cases h5:kc<5
       .have h5':(kc:Int)<5:=oo;have hb2:=HE2.o.1.lt;have hz2:=HE2.o.2.size;rcases(show kc=0\/kc=1\/kc=2\/kc=3\/kc=4 by omega)with rfl|rfl|rfl|rfl|rfl;have EA:=hid ((HE2.o.1.alloc (.cells #[.string ⟨#[114]⟩,.string ⟨#[115,97,110,100,98,111,120]⟩,.string ⟨#[98,111,120]⟩,.string ⟨#[120]⟩,.string ⟨#[121]⟩] 9)).alloc (.cells #[.string ⟨#[114]⟩] 9));have BA:=hid ((HE2.o.2.alloc hz2 (.cells #[.string ⟨#[114]⟩,.string ⟨#[115,97,110,100,98,111,120]⟩,.string ⟨#[98,111,120]⟩,.string ⟨#[120]⟩,.string ⟨#[121]⟩] 9)).alloc Al (.cells #[.string ⟨#[114]⟩] 9));have NA:=hid (heap_alloc_new (wc.alloc (.cells #[.string ⟨#[114]⟩,.string ⟨#[115,97,110,100,98,111,120]⟩,.string ⟨#[98,111,120]⟩,.string ⟨#[120]⟩,.string ⟨#[121]⟩] 9)) (.cells #[.string ⟨#[114]⟩] 9));rotate_left
        have EA:=hid ((HE2.o.1.alloc (.cells #[.string ⟨#[114]⟩,.string ⟨#[115,97,110,100,98,111,120]⟩,.string ⟨#[98,111,120]⟩,.string ⟨#[120]⟩,.string ⟨#[121]⟩] 9)).alloc (.cells #[.string ⟨#[115,97,110,100,98,111,120]⟩] 9));have BA:=hid ((HE2.o.2.alloc hz2 (.cells #[.string ⟨#[114]⟩,.string ⟨#[115,97,110,100,98,111,120]⟩,.string ⟨#[98,111,120]⟩,.string ⟨#[120]⟩,.string ⟨#[121]⟩] 9)).alloc Al (.cells #[.string ⟨#[115,97,110,100,98,111,120]⟩] 9));have NA:=hid (heap_alloc_new (wc.alloc (.cells #[.string ⟨#[114]⟩,.string ⟨#[115,97,110,100,98,111,120]⟩,.string ⟨#[98,111,120]⟩,.string ⟨#[120]⟩,.string ⟨#[121]⟩] 9)) (.cells #[.string ⟨#[115,97,110,100,98,111,120]⟩] 9));rotate_left
        have EA:=hid ((HE2.o.1.alloc (.cells #[.string ⟨#[114]⟩,.string ⟨#[115,97,110,100,98,111,120]⟩,.string ⟨#[98,111,120]⟩,.string ⟨#[120]⟩,.string ⟨#[121]⟩] 9)).alloc (.cells #[.string ⟨#[98,111,120]⟩] 9));have BA:=hid ((HE2.o.2.alloc hz2 (.cells #[.string ⟨#[114]⟩,.string ⟨#[115,97,110,100,98,111,120]⟩,.string ⟨#[98,111,120]⟩,.string ⟨#[120]⟩,.string ⟨#[121]⟩] 9)).alloc Al (.cells #[.string ⟨#[98,111,120]⟩] 9));have NA:=hid (heap_alloc_new (wc.alloc (.cells #[.string ⟨#[114]⟩,.string ⟨#[115,97,110,100,98,111,120]⟩,.string ⟨#[98,111,120]⟩,.string ⟨#[120]⟩,.string ⟨#[121]⟩] 9)) (.cells #[.string ⟨#[98,111,120]⟩] 9));rotate_left
        have EA:=hid ((HE2.o.1.alloc (.cells #[.string ⟨#[114]⟩,.string ⟨#[115,97,110,100,98,111,120]⟩,.string ⟨#[98,111,120]⟩,.string ⟨#[120]⟩,.string ⟨#[121]⟩] 9)).alloc (.cells #[.string ⟨#[120]⟩] 9));have BA:=hid ((HE2.o.2.alloc hz2 (.cells #[.string ⟨#[114]⟩,.string ⟨#[115,97,110,100,98,111,120]⟩,.string ⟨#[98,111,120]⟩,.string ⟨#[120]⟩,.string ⟨#[121]⟩] 9)).alloc Al (.cells #[.string ⟨#[120]⟩] 9));have NA:=hid (heap_alloc_new (wc.alloc (.cells #[.string ⟨#[114]⟩,.string ⟨#[115,97,110,100,98,111,120]⟩,.string ⟨#[98,111,120]⟩,.string ⟨#[120]⟩,.string ⟨#[121]⟩] 9)) (.cells #[.string ⟨#[120]⟩] 9));rotate_left
        have EA:=hid ((HE2.o.1.alloc (.cells #[.string ⟨#[114]⟩,.string ⟨#[115,97,110,100,98,111,120]⟩,.string ⟨#[98,111,120]⟩,.string ⟨#[120]⟩,.string ⟨#[121]⟩] 9)).alloc (.cells #[.string ⟨#[121]⟩] 9));have BA:=hid ((HE2.o.2.alloc hz2 (.cells #[.string ⟨#[114]⟩,.string ⟨#[115,97,110,100,98,111,120]⟩,.string ⟨#[98,111,120]⟩,.string ⟨#[120]⟩,.string ⟨#[121]⟩] 9)).alloc Al (.cells #[.string ⟨#[121]⟩] 9));have NA:=hid (heap_alloc_new (wc.alloc (.cells #[.string ⟨#[114]⟩,.string ⟨#[115,97,110,100,98,111,120]⟩,.string ⟨#[98,111,120]⟩,.string ⟨#[120]⟩,.string ⟨#[121]⟩] 9)) (.cells #[.string ⟨#[121]⟩] 9));rotate_left;all_goals
         obtain⟨e0,e1,e2,e3,e4⟩:=EA.o.cs;have f3:=EA.o.fz 3;go_wp2_with fail;go_meet
         obtain⟨p1,p2,p3,_,p5⟩:=HE2.o.1.put 3 _ _ _ hbr hz2 rfl;exact⟨_,[_],⟨by decide,by simp⟩,p1,ahh p2 oo oo Ab,HE2.o.2.trans p3⟩
       .have h5':(5:Int)<=(kc:Int):=oo;go_wp2_with fail;go_meet
        exact⟨_,[],⟨rfl,by simp⟩,HE2.o.1,SG.iE _ _ _ _ _ _,HE2.o.2⟩
      case rest=>
       obtain⟨cv,cl,hcl,hA⟩:=hcut;have Pv:=hid hA.o;clear hA d3 d4 HE2;obtain⟨ca,cc,hcv⟩:=Pv.o.2.1.form;subst hcv;have d4:=fU Pv.o.2.2 HN.o.2.2;have hq1: -9223372036854775808<=Int.tdiv x.attr 3/\Int.tdiv x.attr 3<=9223372036854775807:=by
        have hk:=k4;unfold Ql at hk;rcases Int.le_total 0 x.attr with h0|h0
        .rw[Int.tdiv_eq_ediv_of_nonneg h0];omega
        .have e:Int.tdiv x.attr 3 = -(Int.tdiv (-x.attr) 3):=by rw[Int.neg_tdiv];simp
         rw[e,Int.tdiv_eq_ediv_of_nonneg oo];omega
       obtain⟨ka,Hka⟩:=Nm (bK (Int.tdiv x.attr 3) 4);have hka:ka<4:=by rw[<-Hka.o];exact jJ _ oo
       have PT:Hid (∀w,Calls prog 14 #[.int .i64 (Int.tdiv x.attr 3),.int .i64 4] w fun e w'=>e=.returned (.int .i64 (ka:Int))/\w'=w):=fun w=>by have:=TI (Int.tdiv x.attr 3) 4 w hq1 ⟨oo,oo⟩;rw[Hka.o]at this;exact this
       go_upto_if 70 with fail;go_cut [6] (fun s6 wy=>∃(av:Av) (al:List (BY×BY)),(al.all (fun a=>nameP a.1&&dK a.2&&!decide (a.1=aA))=true/\al.length<=1)/\Aside (E5 wy b (.int .i64 (pr:Int)) (.string (Gj kt)) (.string id) (.slice ca cl.length cc) av/\SG eX 1 (FrB wr.heap.size b wy) wy (.slice ca cl.length cc) cl/\SG qH 2 (FrB wr.heap.size b wy) wy av al/\Below wr.heap.size wr wy));case first=>
        by_cases hm:Int.tmod x.attr 3=0
        .have hmb:(Int.tmod x.attr 3==0)=true:=by simp[hm]
         have hz3:=Pv.o.2.2.size;have g4:(wc.alloc (.cells #[.string ⟨#[118]⟩,.string ⟨#[118,32,119]⟩,.string ⟨#[]⟩,.string ⟨#[119,118]⟩] 9)).cell? ⟨g,o+i*5+4,none⟩=some (.int .i64 x.attr):=fU (As.alloc nl _) d4;rcases(show ka=0\/ka=1\/ka=2\/ka=3 by omega)with rfl|rfl|rfl|rfl;have EA:=hid ((Pv.o.1.alloc (.cells #[.string ⟨#[118]⟩,.string ⟨#[118,32,119]⟩,.string ⟨#[]⟩,.string ⟨#[119,118]⟩] 9)).alloc (.cells #[.string ⟨#[107]⟩,.string ⟨#[118]⟩] 96));rotate_left;have EA:=hid ((Pv.o.1.alloc (.cells #[.string ⟨#[118]⟩,.string ⟨#[118,32,119]⟩,.string ⟨#[]⟩,.string ⟨#[119,118]⟩] 9)).alloc (.cells #[.string ⟨#[107]⟩,.string ⟨#[118,32,119]⟩] 96));rotate_left
         have EA:=hid ((Pv.o.1.alloc (.cells #[.string ⟨#[118]⟩,.string ⟨#[118,32,119]⟩,.string ⟨#[]⟩,.string ⟨#[119,118]⟩] 9)).alloc (.cells #[.string ⟨#[107]⟩,.string ⟨#[]⟩] 96));rotate_left;have EA:=hid ((Pv.o.1.alloc (.cells #[.string ⟨#[118]⟩,.string ⟨#[118,32,119]⟩,.string ⟨#[]⟩,.string ⟨#[119,118]⟩] 9)).alloc (.cells #[.string ⟨#[107]⟩,.string ⟨#[119,118]⟩] 96));rotate_left;all_goals
          obtain⟨e0,e1,e2,e3,e4⟩:=EA.o.cs;have f4:=EA.o.fz 4;go_wp2_with fail;refine pmb (PT.o _) fun wq hwq=>?_;rw[hwq];clear hwq;go_wp2_with fail;go_meet
          obtain⟨p1,p2,p3,p4,p5⟩:=Pv.o.1.am0 4 _ _ _ hbr hz3 rfl;exact⟨_,[(_,_)],⟨by decide,by simp⟩,p1,Pv.o.2.1.keep eX.fair (fun q hq=>⟨hq.1,by have:=hq.2.1;omega,hq.2.2⟩) (fun q hq=>p4 q hq.2.1 hq.2.2),ahi p2 oo (by have:=Pv.o.1.lt;omega) Ab Ab,Pv.o.2.2.trans p3⟩
        .have hmb:(Int.tmod x.attr 3==0)=false:=by simp[hm]
         go_wp2_with fail;go_meet
         exact⟨_,[],⟨rfl,by simp⟩,Pv.o.1,Pv.o.2.1,SG.iE _ _ _ _ _ _,Pv.o.2.2⟩
       case rest=>
        obtain⟨av,al,hal,hA⟩:=hcut;have HE4:=hid hA.o;clear hA d4 Pv HN;obtain⟨aa,ac,hav⟩:=HE4.o.2.2.1.form;subst hav;obtain⟨e0,e1,e2,e3,e4⟩:=HE4.o.1.cs;have hsc:=HE4.o.2.2.2.size;obtain⟨nc,Hnc⟩:=Nm cl.length;obtain⟨na,Hna⟩:=Nm al.length;obtain⟨tg,Htg⟩:=Nm (Gj kt);have HTG:=hid (ahk kt);rw[Htg.o]at HTG;rw[Hnc.o,Hna.o,Htg.o]at HE4;rw[Hnc.o]at e3;rw[Hna.o]at e4;rw[Htg.o]at e1
        have HX:Hid (wO (oD wr.heap.size wc) wc ⟨(pr:Int),tg,id,cl,al⟩ [.int .i64 (pr:Int),.string tg,.string id,.slice ca nc cc,.slice aa na ac]):=⟨_,_,rfl,HE4.o.2.1.keep eX.fair (fun q hq=>⟨hq.1,hq.2.1⟩) (fun _ _=>rfl),HE4.o.2.2.1.keep qH.fair (fun q hq=>⟨hq.1,hq.2.1⟩) (fun _ _=>rfl),by have:=HTG.o.2.2;show tg.size<=_;omega,by have:id.size<=12:=(by unfold nameP at ahl;simp at ahl;exact ahl.2);show id.size<=_;omega,by show _<=(pr:Int);omega,by show(pr:Int)<=_;omega⟩;have M4:=hid (HC.o.1.below wO.fair HE4.o.2.2.2);have PA:∀o,Hid (wO (DZ w.heap.size (wc.alloc o) (.slice ua (i+1) uc)) (wc.alloc o) ⟨(pr:Int),tg,id,cl,al⟩ [.int .i64 (pr:Int),.string tg,.string id,.slice ca nc cc,.slice aa na ac]):=fun o=>HC.o.1.apart wO.fair HX.o hsr Aa (fun g hg=>Below.heap_alloc _ _ _ hg)
        obtain⟨cs,hown,pX⟩:=M4.o.alloc wO.fair (.cells #[.int .i64 (pr:Int),.string tg,.string id,.slice ca nc cc,.slice aa na ac] 35);have HO:Hid ((wc.alloc (.cells #[.int .i64 (pr:Int),.string tg,.string id,.slice ca nc cc,.slice aa na ac] 35)).ownsRow w.heap.size 35 5 (.slice ua (i+1) uc) (i+1) cs):=by have h:=hown;rw[hdl]at h;exact h
        have Wx:=hid pX;clear hown pX;go_wp2_with(at_builtin;go_must(refine wpList_append_own_at _ rfl _ _ 22 rfl w.heap.size 35 iT (.agg #[.int .i64 0,.string ⟨#[]⟩,.string ⟨#[]⟩,.slice none 0 0,.slice none 0 0]) 5 88 Tryz.underlying22 HI.o.1 HI.o.2.1 HI.o.2.2.1 HI.o.2.2.2 rfl oo (.slice ua (i+1) uc) (i+1) cs rfl HO.o ⟨wc.heap.size,0,none⟩ 1 1 [.int .i64 (pr:Int),.string tg,.string id,.slice ca nc cc,.slice aa na ac] rfl rfl (alP _ _ _ _ _ _ _) (by simp[Value.oneCell']) Ao oo Al ?_));intro v5 w5 hown5 hgr5 _ TV;have hlo:∀rr,(Value.slice ua (i+1) uc).ownBlock=some rr->w.heap.size<=rr:=fun rr hr=>(HO.o.lt rr hr).1;have hb5:Below w.heap.size wc w5:=(As.alloc oo _).grown hgr5 Al hlo
        have yE:w5.ownsRow w.heap.size 35 5 v5 (d.length+1) (cs++[.int .i64 (pr:Int),.string tg,.string id,.slice ca nc cc,.slice aa na ac]):=by rw[hdl];exact hown5
        have M5:=hid (MG.snoc wO.fair Wx.o (PA _).o yE hgr5 (by simpa using TV));have X5:=hid (HC.o.2.2.trans ((HE4.o.2.2.2.mono hsr).trans hb5));have G5:Hid (pgI (d++[⟨(pr:Int),tg,id,cl,al⟩])):=⟨JZ d 0 _ HC.o.2.1.1 (by unfold xC;simp only[Bool.and_eq_true,Bool.not_eq_true',decide_eq_true_eq,decide_eq_false_iff_not];refine⟨⟨⟨⟨⟨⟨⟨HTG.o.1,HTG.o.2.1⟩,ahl⟩,by have:=hcl.2;show cl.length<=4;omega⟩,by have:=hal.2;show al.length<=4;omega⟩,?_⟩,hcl.1⟩,hal.1⟩;rw[if_neg oo];simp only[Bool.and_eq_true,decide_eq_true_eq];exact⟨oo,oo⟩),by rw[List.getElem?_append_left oo];exact HC.o.2.1.2⟩
        clear hown5 yE hgr5 TV hb5 hlo PA;go_wp2_with fail;go_roundg(gk-1);case measure=>omega
        case rel=>exact⟨v5,i+1,d++[⟨(pr:Int),tg,id,cl,al⟩],rfl,by congr 1,oo,oo,by simp[hdl],M5.o,G5.o,X5.o⟩
   .have h2:(29:Int)<=(i:Int):=oo;have HP:Hid (iL d=true):=by
     show _=_;unfold iL;simp only[Bool.and_eq_true,decide_eq_true_eq];exact⟨⟨oo,oo⟩,HC.o.2.1.1⟩
    go_wp2_with fail;go_ret;exact⟨_,_,rfl,HC.o.1,HP.o,⟨oo,HC.o.2.1.2⟩,HC.o.2.2⟩
  .have h1:(n:Int)<=(i:Int):=oo;have HP:Hid (iL d=true):=by
    show _=_;unfold iL;simp only[Bool.and_eq_true,decide_eq_true_eq];exact⟨⟨oo,oo⟩,HC.o.2.1.1⟩
   go_wp2_with fail;go_ret;exact⟨_,_,rfl,HC.o.1,HP.o,⟨oo,HC.o.2.1.2⟩,HC.o.2.2⟩
theorem Va:∀(p:aI) (k i:Nat) (h:i<p.length),gI k p=true->xC (k+i) p[i]=true
 |x::r,k,0,_,h=>by simp only[gI,Bool.and_eq_true]at h;exact h.1
 |x::r,k,i+1,hi,h=>by simp only[gI,Bool.and_eq_true]at h;have:=Va r (k+1) i (by simpa using hi) h.2;rw[show k+1+i=k+(i+1) by omega]at this;exact this
theorem Ij{p:aI}(h:iL p=true){i:Nat}(hi:i<p.length): -1<=p[i].parent/\p[i].parent<i:=by
 unfold iL at h;simp only[Bool.and_eq_true]at h;have:=Va p 0 i hi h.2;rw[RJ]at this;simp only[Bool.and_eq_true]at this;have h2:=this.1.1;unfold acW Wi at h2;simp only[Bool.and_eq_true]at h2;have h3:=h2.2;split at h3
 .simp at h3;omega
 .simp at h3;omega
def Yg:List BY:=[⟨#[99,111,108,111,114]⟩,⟨#[119,105,100,116,104]⟩,⟨#[45,45,120]⟩,⟨#[45,45,121]⟩,⟨#[113,117,111,116,101,115]⟩,⟨#[99,111,110,116,101,110,116]⟩]
theorem ah7(w:WD):Calls prog 24 #[] w fun e w'=>∃v,e=.returned v/\SG eX 1 (oD w.heap.size w') w' v Yg/\Below w.heap.size w w':=by go_in;go_wp2_with fail;go_ret;have hn:=heap_alloc_new w (.cells #[.string ⟨#[99,111,108,111,114]⟩,.string ⟨#[119,105,100,116,104]⟩,.string ⟨#[45,45,120]⟩,.string ⟨#[45,45,121]⟩,.string ⟨#[113,117,111,116,101,115]⟩,.string ⟨#[99,111,110,116,101,110,116]⟩] 9);refine⟨_,rfl,Ph (l:=Yg) (n:=6) rfl ⟨Nat.le_refl _,by simp⟩ Ab Ab (fun i hi=>?_) Ab,As.alloc nl _⟩;rw[Nat.zero_add,cells_at hn];have hi6:i<6:=hi;rcases(show i=0\/i=1\/i=2\/i=3\/i=4\/i=5 by omega)with rfl|rfl|rfl|rfl|rfl|rfl<;>rfl
def Vb(B:Nat)(w:WD)(a:Option Addr)(n:Nat)(f:Nat->BY):Prop:=n<=9223372036854775807/\∀i,i<n->i<3->∃g o,a=some ⟨g,o,none⟩/\g<B/\w.cell? ⟨g,o+i,none⟩=some (.string (f i))/\(f i).size<=9223372036854775807
theorem Vd{F:lI}{lp:Nat->BY->Bool}{p:aI}{sh:List BY}{e:Nat}{q:BY}{ex:Ending}(h:cmR F lp p sh e q ex):∃(t:BY) (er:Int),ex=.returned (.tuple #[.string t,.int .i64 er])/\(er=0\/er=2):=by
 unfold cmR at h;split at h
 .exact⟨_,2,h,.inr rfl⟩
 .obtain⟨t,h1,_⟩:=h;exact⟨t,0,h1,.inl rfl⟩
theorem ask_size:∀s∈Yg,s.size<=100:=by decide
section
section
variable {α:Type} {C:wV α} {sz:Nat} {S:Nat->Prop} {w:WD}
theorem jC.set(hZ:ug C sz){k:Nat}(hk:k<sz){u:Av}{x:α}:∀(l:List α) (cs:List Av) (i:Nat) (hi:i<l.length) (_:jC C S w l cs) (_:∀c,C S w l[i] c->C S w x (c.set k u)),jC C S w (l.set i x) (cs.set (i*sz+k) u)
 |y::r,cs,0,_,⟨c,rest,h1,h2,h3⟩,hx=>by subst h1;have hl:=hZ _ _ _ _ h2;refine⟨c.set k u,rest,?_,hx c h2,h3⟩;rw[Nat.zero_mul,Nat.zero_add,List.set_append_left _ _ oo]
 |y::r,cs,i+1,hi,⟨c,rest,h1,h2,h3⟩,hx=>by
  subst h1;have hl:=hZ _ _ _ _ h2;refine⟨c,rest.set (i*sz+k) u,?_,h2,jC.set hZ hk r rest i (by simpa using hi) h3 hx⟩;rw[List.set_append_right _ _ (by rw[hl,Nat.add_mul];omega),hl];congr 2
  rw[Nat.add_mul];omega
end
theorem MG.put{α:Type}{C:wV α}{sz:Nat}(hF:Fair C)(hZ:ug C sz){T:TypeId}{base:Nat}{w:WD}{g n cap:Nat}{l:List α}(h:MG C sz T base w (.slice (some ⟨g,0,none⟩) n cap) l){i k:Nat}(hi:i<l.length)(hk:k<sz)(u:Av)(x:α)
  (hx:∀c,C (DZ base (w.setCell ⟨g,i*sz+k,none⟩ u) (.slice (some ⟨g,0,none⟩) n cap)) (w.setCell ⟨g,i*sz+k,none⟩ u) l[i] c->C (DZ base (w.setCell ⟨g,i*sz+k,none⟩ u) (.slice (some ⟨g,0,none⟩) n cap)) (w.setCell ⟨g,i*sz+k,none⟩ u) x (c.set k u)):
  MG C sz T base (w.setCell ⟨g,i*sz+k,none⟩ u) (.slice (some ⟨g,0,none⟩) n cap) (l.set i x):=by
 obtain⟨cs,h1,h2⟩:=h;have hs:(w.setCell ⟨g,i*sz+k,none⟩ u).heap.size=w.heap.size:=by simp[World.setCell]
 refine⟨cs.set (i*sz+k) u,?_,jC.set hZ hk l cs i hi (h2.keep hF (fun q hq=>⟨hq.1,by rw[hs];exact hq.2.1,hq.2.2⟩) (fun q hq=>Below.heap_setCell _ _ _ _ (fun e=>hq.2.2 (by rw[e];rfl)))) hx⟩;refine⟨by simpa using h1.1,?_⟩;rcases h1.2 with⟨e,_⟩|⟨g',cap',cur,e,hbg,hg,h3,h4,h5,h6⟩
 .cases e
 .cases e;refine .inr ⟨g,cap,cur.setIfInBounds (i*sz+k) u,by simp,hbg,bQ _ _ _ _ _ _ _ hg,by simpa using h3,h4,by simpa using h5,?_⟩;rw[Array.toList_setIfInBounds,List.take_set,List.length_set,h6]
def Sp.Elem.D6(x:Elem)(l:List BY):Elem:=⟨x.parent,x.tag,x.id,l,x.attrs⟩
theorem MG.cls{T:TypeId}{base:Nat}{w w':WD}{g n cap:Nat}{d:aI}(h:MG wO 5 T base w (.slice (some ⟨g,0,none⟩) n cap) d){i:Nat}(hi:i<d.length){u:Av}{cl:List BY}(e:w.setCell ⟨g,i*5+3,none⟩ u=w')(hu:SG eX 1 (DZ base w' (.slice (some ⟨g,0,none⟩) n cap)) w' u cl):
  MG wO 5 T base w' (.slice (some ⟨g,0,none⟩) n cap) (d.set i (d[i].D6 cl)):=by
 subst e;refine h.put wO.fair wO.sized hi oo u _ ?_;rintro c ⟨cv,av,rfl,h2,h3,h4⟩;exact⟨u,av,rfl,hu,h3,h4⟩
theorem MG.cells5{T:TypeId}{base:Nat}{w:WD}{g n cap:Nat}{d:aI}(h:MG wO 5 T base w (.slice (some ⟨g,0,none⟩) n cap) d){i:Nat}(hi:i<d.length):(∃u,w.cell? ⟨g,i*5+3,none⟩=some u)/\(∀k,w.frozen? ⟨g,k,none⟩=false)/\base<=g/\g<w.heap.size:=by
 have hl:=h.lt g rfl;obtain⟨cs,h1,h2⟩:=h;have h3:jC wO (oD base w) w d cs:=h2.keep wO.fair (fun g hg=>⟨hg.1,hg.2.1⟩) (fun _ _=>rfl);have hL:=jC.lies wO.sized (show oD base w g from hl) d cs 0 h3 fun j u hu=>by have:=h1.cells (g:=g) rfl j u hu;rw[Addr.add_lit,Nat.zero_add]at this;rw[Nat.zero_add];exact this
 obtain⟨_,c,⟨cv,av,rfl,_⟩,hc⟩:=LG.at d g 0 i hL hi;refine⟨⟨cv,by have:=hc 3 cv rfl;rw[Nat.zero_add]at this;exact this⟩,fun k=>?_,hl⟩;rcases h1.2 with⟨e,_⟩|⟨g',cap',cur,e,hbg,hg,_⟩
 .cases e
 .cases e;unfold World.frozen?;rw[hg];simp
theorem aoc{d:aI}{i:Nat}(hi:i<d.length){cl:List BY}(h:iL d=true)(hl:cl.length<=4)(hc:cl.all (fun c=>nameP c&&!decide (c=aA))=true):iL (d.set i (d[i].D6 cl))=true:=by
 have key:∀(d:aI) (k i:Nat) (hi:i<d.length),gI k d=true->gI k (d.set i (d[i].D6 cl))=true:=by
  intro d;induction d with
  |nil=>intro k i hi;simp at hi
  |cons x r ih=>
   intro k i hi h;simp only[gI,Bool.and_eq_true]at h;cases i with
   |zero=>simp only[List.set_cons_zero,List.getElem_cons_zero,gI,Bool.and_eq_true];refine⟨?_,h.2⟩;have h1:=h.1;unfold xC Sp.Elem.D6 at *;simp only[Bool.and_eq_true,decide_eq_true_eq]at h1⊢;obtain⟨⟨⟨⟨⟨⟨⟨a1,a2⟩,a3⟩,a4⟩,a5⟩,a6⟩,a7⟩,a8⟩:=h1;exact⟨⟨⟨⟨⟨⟨⟨a1,a2⟩,a3⟩,hl⟩,a5⟩,a6⟩,hc⟩,a8⟩
   |succ i=>simp only[List.set_cons_succ,List.getElem_cons_succ,gI,Bool.and_eq_true];exact⟨h.1,ih (k+1) i (by simpa using hi) h.2⟩
 unfold iL at *;simp only[Bool.and_eq_true,decide_eq_true_eq,List.length_set]at h⊢;exact⟨h.1,key d 0 i hi h.2⟩
theorem apV{p:aI}{i:Nat}(hi:i<3)(h:iL p=true){x:Elem}(h0:p[0]?=some x)(hc:x.classes=[rX i]):KPg p (rX i):=by
 unfold iL at h;simp only[Bool.and_eq_true,decide_eq_true_eq]at h;have hat:∀i (hi:i<p.length),xC i p[i]=true:=fun i hi=>by have:=Eo p 0 i h.2 hi;rw[Nat.zero_add]at this;exact this
 refine⟨oo,?_,fun e he hl=>?_,?_⟩
 .have:=hat 0 oo;unfold xC at this;simp only[Bool.and_eq_true,decide_eq_true_eq]at this;obtain⟨⟨⟨_,a6⟩,_⟩,_⟩:=this;have a7:p[0].parent = -1:=by simpa using a6
  unfold parentOf;rw[List.getElem?_eq_getElem oo];show p[0].parent<0;omega
 .have:=hat e hl;unfold xC at this;simp only[Bool.and_eq_true,decide_eq_true_eq]at this;obtain⟨⟨⟨_,a6⟩,_⟩,_⟩:=this;rw[if_neg oo,Bool.and_eq_true,decide_eq_true_eq,decide_eq_true_eq]at a6;unfold parentOf;rw[List.getElem?_eq_getElem hl];show 0<=p[e].parent/\p[e].parent.toNat<e;omega
 .unfold TQ;rw[h0];simp only[hc];rcases(show i=0\/i=1\/i=2 by omega)with rfl|rfl|rfl<;>decide
structure aod where
 sel:Int
 prop:Int
 val:Int
 im:Bool
def apq(B:Nat)(w:WD)(a:Option Addr)(n:Nat)(f:Nat->aod):Prop:=
 n<=9223372036854775807/\∀i,i<n->i<8->∃g o,a=some ⟨g,o,none⟩/\g<B /\
  (w.cell? ⟨g,o+i*4,none⟩=some (.int .i64 (f i).sel)/\w.cell? ⟨g,o+i*4+1,none⟩=some (.int .i64 (f i).prop)/\w.cell? ⟨g,o+i*4+2,none⟩=some (.int .i64 (f i).val)/\w.cell? ⟨g,o+i*4+3,none⟩=some (.bool (f i).im)) /\
  Ql (f i).sel/\Ql (f i).prop/\Ql (f i).val
theorem apq.below{B B':Nat}{w w':WD}{a:Option Addr}{n:Nat}{f:Nat->aod}(h:apq B w a n f)(hb:Below B' w w')(hB:B<=B'):apq B w' a n f:=by refine⟨h.1,fun i hi h8=>?_⟩;obtain⟨g,o,h1,h2,⟨c0,c1,c2,c3⟩,h4⟩:=h.2 i hi h8;have e:∀k,w'.cell? ⟨g,k,none⟩=w.cell? ⟨g,k,none⟩:=fun k=>World.cell?_of_block (w:=w) (hb.block g oo);exact⟨g,o,h1,h2,⟨(e _).trans c0,(e _).trans c1,(e _).trans c2,(e _).trans c3⟩,h4⟩
def toK(r:aod):KR9:=⟨bK r.sel 14,bK r.prop 4,bK r.val 6,r.im⟩
theorem apr(r:aod):(toK r).ok:=⟨jJ _ oo,jJ _ oo,jJ _ oo⟩
def kL9(f:Nat->aod):Nat->List KR9
 |0=>[]
 |i+1=>kL9 f i++[toK (f i)]
theorem aoq(f:Nat->aod):∀i,(kL9 f i).length=i
 |0=>rfl
 |i+1=>by unfold kL9;rw[List.length_append,aoq f i];rfl
theorem anZ(f:Nat->aod):∀i,∀x∈kL9 f i,x.ok
 |0,x,h=>by cases h
 |i+1,x,h=>by
  unfold kL9 at h;rcases List.mem_append.1 h with h|h
  .exact anZ f i x h
  .rw[List.mem_singleton.1 h];exact apr _
theorem aoA:∀(l:List BY) (a:BY),cat (l++[a])=cat l++a
 |[],a=>by show a++aA=aA++a;rw[show a++aA=a from ByteArray.append_empty,show aA++a=a from ByteArray.empty_append]
 |x::l,a=>by show x++cat (l++[a])=x++cat l++a;rw[aoA l a,ByteArray.append_assoc]
theorem aoi(root:BY)(l:List KR9)(x:KR9):CY root (l++[x])=CY root l++wpK root x:=by unfold CY;rw[List.map_append];exact aoA _ _
theorem apF(a:BY):(⟨#[]⟩:BY)++a=a:=ByteArray.empty_append
theorem apW(sh:BY)(x:KR9):sh++DL x.s++((⟨#[123]⟩:BY)++kP9.getD x.a aA++(⟨#[58]⟩:BY)++kV9.getD x.v aA++(if x.im=true then ZX else aA))++(⟨#[125]⟩:BY)=sh++wpK aA x:=by
 have e:Vw (Q9 aA)=aA:=by unfold Vw;exact if_pos rfl
 unfold wpK pcK an0 aow;rw[e,show aA++(DL x.s++(b1 123++(kP9.getD x.a aA++(b1 58++(kV9.getD x.v aA++(if x.im=true then ZX else aA)))++b1 125)))=_ from apF _];simp only[ByteArray.append_assoc];rfl
theorem ap8{root:BY}(hr:root≠aA)(sh:BY)(x:KR9):sh++(⟨#[46]⟩:BY)++root++(⟨#[32]⟩:BY)++DL x.s++((⟨#[123]⟩:BY)++kP9.getD x.a aA++(⟨#[58]⟩:BY)++kV9.getD x.v aA++(if x.im=true then ZX else aA))++(⟨#[125]⟩:BY)=sh++wpK root x:=by
 have e:Vw (Q9 root)=b1 46++(root++b1 32):=by unfold Vw;exact if_neg hr
 unfold wpK pcK an0 aow;rw[e];simp only[ByteArray.append_assoc];rfl
end
theorem an1{w:WD}{b:Nat}{T:TypeId}{l:List BY}(h:w.heap[b]?=some (.cells (l.map Value.string).toArray T (0,0)))(i:Nat)(hi:i<l.length):w.cell? ⟨b,i,none⟩=some (.string (l.getD i aA)):=by rw[cells_at h];simp[List.getD_eq_getElem?_getD,List.getElem?_eq_getElem hi]
theorem anV{w:WD}{b:Nat}{T:TypeId}{l:List BY}(h:w.heap[b]?=some (.cells (l.map Value.string).toArray T (0,0)))(i:Nat)(hi:i<l.length):w.cell? ⟨b,0+i,none⟩=some (.string l[i]):=by rw[Nat.zero_add,cells_at h];simp[List.getElem?_eq_getElem hi]
theorem MG.here{α:Type}{C:wV α}{sz:Nat}{T:TypeId}{base:Nat}{w:WD}{v:Av}{l:List α}(h:MG C sz T base w v l)(hn:l≠[]):∃g cap,v=.slice (some ⟨g,0,none⟩) l.length cap/\l.length<=cap:=by
 obtain⟨cs,h1,_⟩:=h;rcases h1.2 with⟨_,e⟩|⟨g,cap,cur,e,_,_,h3,_⟩
 .exact absurd (List.eq_nil_of_length_eq_zero e) hn
 .exact⟨g,cap,e,h3⟩
theorem aps:∀i,i<3->[rX i].all (fun c=>nameP c&&!decide (c=aA))=true:=by intro i hi;rcases(show i=0\/i=1\/i=2 by omega)with rfl|rfl|rfl<;>decide
theorem aoU{T:TypeId}{base:Nat}{w w':WD}{g n cap:Nat}{d:aI}(h:MG wO 5 T base w (.slice (some ⟨g,0,none⟩) n cap) d){i:Nat}(hi:i<d.length){s:BY}(hs:s.size<=100)(hgl:base<=g)(hgu:g<w.heap.size)(e:(w.setCell ⟨g,i*5+3,none⟩ (.slice (some ⟨w.heap.size,0,none⟩) 1 1)).alloc (.cells #[.string s] 9)=w'):
  MG wO 5 T base w' (.slice (some ⟨g,0,none⟩) n cap) (d.set i (d[i].D6 [s]))/\Below base w w'/\w'.heap.size=w.heap.size+1:=by
 subst e;have hz:(w.setCell ⟨g,i*5+3,none⟩ (.slice (some ⟨w.heap.size,0,none⟩) 1 1)).heap.size=w.heap.size:=by simp[World.setCell]
 have hA:=h.alloc wO.fair (.cells #[.string s] 9);have hn:=heap_alloc_new w (.cells #[.string s] 9);have hu:SG eX 1 (DZ base ((w.alloc (.cells #[.string s] 9)).setCell ⟨g,i*5+3,none⟩ (.slice (some ⟨w.heap.size,0,none⟩) 1 1)) (.slice (some ⟨g,0,none⟩) n cap)) ((w.alloc (.cells #[.string s] 9)).setCell ⟨g,i*5+3,none⟩ (.slice (some ⟨w.heap.size,0,none⟩) 1 1)) (.slice (some ⟨w.heap.size,0,none⟩) 1 1) [s]:=by
  have hb:((w.alloc (.cells #[.string s] 9)).setCell ⟨g,i*5+3,none⟩ (.slice (some ⟨w.heap.size,0,none⟩) 1 1)).heap[w.heap.size]?=some (.cells #[.string s] 9 (0,0)):=by rw[Below.heap_setCell _ _ _ _ (show w.heap.size≠g by omega)];exact hn
  refine⟨_,_,rfl,⟨Nat.le_refl _,by simp⟩,fun _=>⟨w.heap.size,0,rfl,⟨⟨oo,by simp[World.setCell],fun e=>by have:=Option.some.inj e;simp at this;omega⟩,[.string s],⟨rfl,oo⟩,fun j u hu=>?_⟩,trivial⟩⟩;rw[Nat.zero_add,cells_at hb];simpa using hu
 have hM:=hA.cls hi rfl hu;have ec:(w.setCell ⟨g,i*5+3,none⟩ (.slice (some ⟨w.heap.size,0,none⟩) 1 1)).alloc (.cells #[.string s] 9)=(w.alloc (.cells #[.string s] 9)).setCell ⟨g,i*5+3,none⟩ (.slice (some ⟨w.heap.size,0,none⟩) 1 1):=by exact(World.setCell_alloc_past _ _ _ _ hgu).symm
 refine⟨by rw[ec];exact hM,((Below.refl base w).setCell (p:=⟨g,i*5+3,none⟩) hgl _).alloc oo _,by simp[hz]⟩
theorem aoV{w w':WD}{g k:Nat}(hb:Below w.heap.size w w')(hg:g<w.heap.size)(h:w.frozen? ⟨g,k,none⟩=false):w'.frozen? ⟨g,k,none⟩=false:=by unfold World.frozen? at *;simp only at *;rw[hb.block g hg];exact h
theorem apG(i:Nat):(kP9.getD i aA).size<=100:=by
 match i with
 |0|1|2|3=>decide
 |_+4=>exact(show aA.size<=100 by decide)
theorem apH(i:Nat):(kV9.getD i aA).size<=100:=by
 match i with
 |0|1|2|3|4|5=>decide
 |_+6=>exact(show aA.size<=100 by decide)
theorem apX[bV](hd:KD9)(t:Nat->Int)(la:Option Addr)(ln lc:Nat)(lf:Nat->aod)(na:Option Addr)(nn nc:Nat)(nf:Nat->XF)(a:Int)(B:Nat)(w:WD)(hR:apq B w la ln lf)(hN:XG B w na nn nf)(hB:B<=w.heap.size)
  (ha: -9223372036854775808<=a/\a<=9223372036854775807) (hI:jD w) (hl:Lit w) (ht:Gq t w) (hrd:∀f,vK f):
  Calls prog 10 #[.slice la ln lc,.slice na nn nc,.int .i64 a] w fun e w'=>e=.returned (.bool true)/\Below w.heap.size w w':=by
 have HI:=hid hI;have HL:=hid hl;have HT:=hid ht;have HRU:=hid hR;have HRA:=hid hN;have HRD:=hid hrd;have HD:=hid hd;have hln:=hR.1;clear hI hl ht hR hN hrd hd;go_in;go_wp2_with fail;generalize hw1:World.alloc _ _=w1;obtain⟨q1,hb1⟩:=qy hw1;have HZ1:Hid (w1.heap.size=w.heap.size+1):=by show _=_;rw[<-hw1];simp
 refine pmb (TI a 3 w1 ha ⟨oo,oo⟩) fun wq hwq=>?_;rw[hwq];clear hwq hw1;have la3:=jJ a (n:=3) oo;have T1:w1.cell? ⟨w.heap.size,bK a 3,none⟩=some (.string (rX (bK a 3))):=rY q1 _ la3;generalize bK a 3=ri at *;have aqf:(ri:Int)<3:=oo;obtain⟨rt,Hrt⟩:=Nm (rX ri);rw[Hrt.o]at T1;have hrf:=anO ri la3;rw[Hrt.o]at hrf;have HRF:=hid hrf;clear hrf q1;go_upto_region 3 with fail
 generalize hw2:World.alloc _ _=w2;obtain⟨q0,q1,q2,hb2⟩:=alF hw2;have hsz1:=HZ1.o;have HZ2:Hid (w2.heap.size=w1.heap.size+3):=by show _=_;rw[<-hw2];simp
 have hsz2:=HZ2.o;obtain⟨n1,Hn1⟩:=Nm w1.heap.size;have hn1:=Hn1.o;rw[hn1]at q0 q1 q2 hb2 hsz1 hsz2;rw[hn1];clear hn1;have P2:Hid (jK w2.heap.size w2 (Q9 rt) (.slice (some ⟨n1,0,none⟩) 2 2) (.slice (some ⟨n1+1,0,none⟩) 1 1) (.slice none 0 0)):=⟨Ph (l:=(Q9 aA).props) rfl oo nl Ab (anV q0) Ab,Ph (l:=(Q9 aA).aJ) rfl oo nl Ab (anV q1) Ab,SG.iE _ _ _ _ _ _,Nat.le_refl _⟩
 have Q2:Hid (w2.heap[n1+1+1]?=some (.cells #[.string rt,.slice (some ⟨n1,0,none⟩) 2 2,.slice (some ⟨n1+1,0,none⟩) 1 1,.slice none 0 0,.bool true,.bool false] 41 (0,0))):=q2;have B2:=hid (hb1.trans (hb2.mono oo));clear hw2 q0 q1 q2 hb2 hb1 T1 hsz1 hsz2;go_upto_region 6 with fail
 generalize hw3:World.alloc _ _=w3;obtain⟨q0,q1,q2,hb3⟩:=alF hw3;have hsz1:=HZ1.o;have hsz2:=HZ2.o;rw[Hn1.o]at hsz1 hsz2;have HZ3:Hid (w3.heap.size=w2.heap.size+3):=by show _=_;rw[<-hw3];simp
 have hsz3:=HZ3.o;obtain⟨n2,Hn2⟩:=Nm w2.heap.size;have hn2:=Hn2.o;rw[hn2]at q0 q1 q2;rw[hn2];have QS9:Hid (w3.heap[n2]?=some (.cells (kS9.map Value.string).toArray 9 (0,0))):=q0;have QP:Hid (w3.heap[n2+1]?=some (.cells (kP9.map Value.string).toArray 9 (0,0))):=q1;have QV9:Hid (w3.heap[n2+1+1]?=some (.cells (kV9.map Value.string).toArray 9 (0,0))):=q2;have P3:=hid (P2.o.below hb3 nl);have Q3:Hid (w3.heap[n1+1+1]?=some (.cells #[.string rt,.slice (some ⟨n1,0,none⟩) 2 2,.slice (some ⟨n1+1,0,none⟩) 1 1,.slice none 0 0,.bool true,.bool false] 41 (0,0))):=(hb3.block _ oo).trans Q2.o;have B3:=hid (Ay B2.o hb3);have hs3:=B3.o.size;have HNN:Hid (n2=n1+3/\w3.heap.size=n2+3):=⟨oo,oo⟩
 clear hw3 q0 q1 q2 hb3 P2 Q2 B2 hsz1 hsz2 hsz3 hn2;go_upto_block 0 with fail;go_cut [12,13] (fun s12 s13 wx=>∃k:Nat,k<=8/\s12=.string (CY aA (kL9 lf k))/\s13=.string (CY rt (kL9 lf k))/\Aside (Below w3.heap.size w3 wx));case first=>
  go_wp2_with fail;go_loopg[12,13,14] ln (fun gg v12 v13 v14 wr=>∃i:Nat,v12=.string (CY aA (kL9 lf i))/\v13=.string (CY rt (kL9 lf i))/\v14=.int .i64 (i:Int)/\i+gg=ln/\i<=8/\Aside (Below w3.heap.size w3 wr));case atStart=>exact⟨0,rfl,rfl,rfl,oo,oo,As⟩
  case round=>
   obtain⟨i,rfl,rfl,rfl,hi,hi8,hA⟩:=hrel;have HC:=hid hA.o;clear hA;have hsr:=HC.o.size;have hnn:=HNN.o;by_cases hlt:i<ln
   .have h1:(i:Int)<(ln:Int):=oo;by_cases h8:i<8
    .have h2:(i:Int)<8:=oo;obtain⟨g,o,rfl,hgB,⟨c0,c1,c2,c3⟩,k0,k1,k2⟩:=(HRU.o.below (B3.o.trans (HC.o.mono hs3)) hB).2 i hlt h8;obtain⟨x,Hx⟩:=Nm (lf i);rw[Hx.o]at c0 c1 c2 c3 k0 k1 k2;have z1:=QZ aA Ab (kL9 lf i) (anZ lf i);have z2:=QZ rt HRF.o.2.2.1 (kL9 lf i) (anZ lf i);rw[aoq]at z1 z2;have e1:CY aA (kL9 lf (i+1))=CY aA (kL9 lf i)++wpK aA (toK x):=by rw[<-Hx.o];exact aoi _ _ _
     have e2:CY rt (kL9 lf (i+1))=CY rt (kL9 lf i)++wpK rt (toK x):=by rw[<-Hx.o];exact aoi _ _ _
     rw[<-apW]at e1;rw[<-ap8 HRF.o.2.2.2.2]at e2;have E1:=hid e1;have E2:=hid e2;clear e1 e2;obtain⟨sh,Hsh⟩:=Nm (CY aA (kL9 lf i));obtain⟨wn,Hwn⟩:=Nm (CY rt (kL9 lf i));rw[Hsh.o]at z1 E1;rw[Hwn.o]at z2 E2;rw[Hsh.o,Hwn.o];have l14:=jJ x.sel (n:=14) oo;have l4:=jJ x.prop (n:=4) oo;have l6:=jJ x.val (n:=6) oo;have d0:wr.cell? ⟨n2,bK x.sel 14,none⟩=some (.string (DL (bK x.sel 14))):=an1 ((HC.o.block _ oo).trans QS9.o) _ l14;have d1:wr.cell? ⟨n2+1,bK x.prop 4,none⟩=some (.string (kP9.getD (bK x.prop 4) aA)):=an1 ((HC.o.block _ oo).trans QP.o) _ l4;have d2:wr.cell? ⟨n2+1+1,bK x.val 6,none⟩=some (.string (kV9.getD (bK x.val 6) aA)):=an1 ((HC.o.block _ oo).trans QV9.o) _ l6;have hkx:=apr x;have yr:=HRF.o.2.2.1
     have y0:(DL (bK x.sel 14)).size<=14:=(anX hkx).1;unfold toK at E1 E2;simp only at E1 E2;have y1:(kP9.getD (bK x.prop 4) aA).size<=100:=apG _;have y2:(kV9.getD (bK x.val 6) aA).size<=100:=apH _;generalize DL (bK x.sel 14)=tS at *;generalize kP9.getD (bK x.prop 4) aA=tP at *;generalize kV9.getD (bK x.val 6) aA=tV9 at *;clear hnn;have aqg:(bK x.sel 14:Int)<14:=oo;have l4':(bK x.prop 4:Int)<4:=oo;have l6':(bK x.val 6:Int)<6:=oo;go_wp2_with fail;refine pmb (TI x.sel 14 wr k0 ⟨oo,oo⟩) fun wq hwq=>?_;rw[hwq];clear hwq;go_wp2_with fail;refine wp_region_any An ?_;change wpAny _ _ _ _ _ _ _ (World.drew _);obtain⟨wz,hwz⟩:∃x,World.drew wr=x:=⟨_,rfl⟩;have hz:Below wr.heap.size wr wz:=by rw[<-hwz];exact As.drew
     have HZ:Hid (wz.cell? ⟨g,o+i*4+1,none⟩=some (.int .i64 x.prop)/\wz.cell? ⟨g,o+i*4+2,none⟩=some (.int .i64 x.val)/\wz.cell? ⟨n2+1,bK x.prop 4,none⟩=some (.string tP)/\wz.cell? ⟨n2+1+1,bK x.val 6,none⟩=some (.string tV9)):=by rw[<-hwz];exact⟨c1,c2,d1,d2⟩
     have Z3:Hid (wz.cell? ⟨g,o+i*4+3,none⟩=some (.bool x.im)):=by rw[<-hwz];exact c3
     have BZ:=hid (HC.o.trans (hz.mono hsr));rw[hwz];clear hwz hz c0 c1 c2 c3 d0 d1 d2;refine wpAny_of_held (S:=fun wx=>wx.cell? ⟨g,o+i*4+1,none⟩=some (.int .i64 x.prop)/\wx.cell? ⟨g,o+i*4+2,none⟩=some (.int .i64 x.val)/\wx.cell? ⟨n2+1,bK x.prop 4,none⟩=some (.string tP)/\wx.cell? ⟨n2+1+1,bK x.val 6,none⟩=some (.string tV9)) _ _ _ _ ?_;have f1:¬9223372036854775807<1+tP.size:=oo;have f2:¬9223372036854775807<1+tP.size+1:=oo;have f3:¬9223372036854775807<1+tP.size+1+tV9.size:=oo;refine dH 0 rfl HZ.o (by intro w hSw;obtain⟨r0,r1,r2,r3⟩:=hSw;exact gs) ?_;refine dH 1 rfl HZ.o (by intro w hSw;obtain⟨r0,r1,r2,r3⟩:=hSw;exact gs) ?_;refine dH 2 rfl HZ.o (by intro w hSw;obtain⟨r0,r1,r2,r3⟩:=hSw;exact gs) ?_
     refine dH 3 rfl HZ.o (by intro w hSw;obtain⟨r0,r1,r2,r3⟩:=hSw;exact gs) ?_;refine dH 4 rfl HZ.o (by intro w hSw;obtain⟨r0,r1,r2,r3⟩:=hSw;exact gs) ?_;refine dH 5 rfl HZ.o (by intro w hSw;obtain⟨r0,r1,r2,r3⟩:=hSw;exact gs) ?_;refine tkT 6 rfl HZ.o 14 #[.int .i64 x.prop,.int .i64 ((4:Nat):Int)] (by intro w hSw;exact gs) (fun w _=>TI x.prop 4 w k1 ⟨oo,oo⟩) ?_;refine dH 7 rfl HZ.o (by intro w hSw;obtain⟨r0,r1,r2,r3⟩:=hSw;exact gs) ?_;refine dH 8 rfl HZ.o (by intro w hSw;obtain⟨r0,r1,r2,r3⟩:=hSw;exact gs) ?_;refine dH 9 rfl HZ.o (by intro w hSw;obtain⟨r0,r1,r2,r3⟩:=hSw;exact gs) ?_
     refine dH 10 rfl HZ.o (by intro w hSw;obtain⟨r0,r1,r2,r3⟩:=hSw;exact gs) ?_;refine dH 11 rfl HZ.o (by intro w hSw;obtain⟨r0,r1,r2,r3⟩:=hSw;exact gs) ?_;refine dH 12 rfl HZ.o (by intro w hSw;obtain⟨r0,r1,r2,r3⟩:=hSw;exact gs) ?_;refine dH 13 rfl HZ.o (by intro w hSw;obtain⟨r0,r1,r2,r3⟩:=hSw;exact gs) ?_;refine dH 14 rfl HZ.o (by intro w hSw;obtain⟨r0,r1,r2,r3⟩:=hSw;exact gs) ?_;refine dH 15 rfl HZ.o (by intro w hSw;obtain⟨r0,r1,r2,r3⟩:=hSw;exact gs) ?_;refine dH 16 rfl HZ.o (by intro w hSw;obtain⟨r0,r1,r2,r3⟩:=hSw;exact gs) ?_
     refine tkT 17 rfl HZ.o 14 #[.int .i64 x.val,.int .i64 ((6:Nat):Int)] (by intro w hSw;exact gs) (fun w _=>TI x.val 6 w k2 ⟨oo,oo⟩) ?_;refine dH 18 rfl HZ.o (by intro w hSw;obtain⟨r0,r1,r2,r3⟩:=hSw;exact gs) ?_;refine dH 19 rfl HZ.o (by intro w hSw;obtain⟨r0,r1,r2,r3⟩:=hSw;exact gs) ?_;refine dH 20 rfl HZ.o (by intro w hSw;obtain⟨r0,r1,r2,r3⟩:=hSw;exact gs) ?_;refine iW 21 fun K hK=>?_;go_simp;refine hK.o _ _ (HZ.o) (fun _=>?_);clear hK K;refine wpAnyH_done An ?_ _;clear f1 f2 f3;have c3:=Z3.o;obtain⟨im,Him⟩:=Nm x.im;rw[Him.o]at c3 E1 E2;cases im
     .have E3:Hid (CY aA (kL9 lf (i+1))=sh++tS++(⟨#[123]⟩++tP++⟨#[58]⟩++tV9)++⟨#[125]⟩):=by
       have e:=E1.o;rw[if_neg (by decide),mO]at e;exact e
      have E4:Hid (CY rt (kL9 lf (i+1))=wn++⟨#[46]⟩++rt++⟨#[32]⟩++tS++(⟨#[123]⟩++tP++⟨#[58]⟩++tV9)++⟨#[125]⟩):=by have e:=E2.o;rw[if_neg (by decide),mO]at e;exact e
      go_wp2_with fail;go_roundg(gk-1);case measure=>omega
      case rel=>exact⟨i+1,by rw[E3.o],by rw[E4.o],by congr 1,oo,oo,BZ.o⟩
     .have E3:Hid (CY aA (kL9 lf (i+1))=sh++tS++(⟨#[123]⟩++tP++⟨#[58]⟩++tV9++ZX)++⟨#[125]⟩):=by
       have e:=E1.o;rw[if_pos rfl]at e;exact e
      have E4:Hid (CY rt (kL9 lf (i+1))=wn++⟨#[46]⟩++rt++⟨#[32]⟩++tS++(⟨#[123]⟩++tP++⟨#[58]⟩++tV9++ZX)++⟨#[125]⟩):=by have e:=E2.o;rw[if_pos rfl]at e;exact e
      go_wp2_with fail;go_roundg(gk-1);case measure=>omega
      case rel=>exact⟨i+1,by rw[E3.o];rfl,by rw[E4.o];rfl,by congr 1,oo,oo,BZ.o⟩
    .have h2:(8:Int)<=(i:Int):=oo;go_wp2_with fail;go_meet
     exact⟨i,hi8,rfl,rfl,HC.o⟩
   .have h1:(ln:Int)<=(i:Int):=oo;go_wp2_with fail;go_meet
    exact⟨i,hi8,rfl,rfl,HC.o⟩
 case rest=>
  obtain⟨k,hk8,rfl,rfl,hA⟩:=hcut;have HC:=hid hA.o;clear hA;have hsc:=HC.o.size;have hkr:=aoI HD.o la3 (kL9 lf k) (anZ lf k) (by rw[aoq];exact hk8);have R0:=hid (anY HD.o (root:=aA) Ab (fun c hc=>by cases hc) HD.o.d7 (kL9 lf k) (anZ lf k));have R1:=hid (anY HD.o (root:=rX ri) (anO ri la3).1 (anO ri la3).2.1 (fun j hj=>by rw[HD.o.dp ri j la3 hj];exact HD.o.d7 j hj) (kL9 lf k) (anZ lf k));have z1:=QZ aA Ab (kL9 lf k) (anZ lf k);have z2:=QZ rt HRF.o.2.2.1 (kL9 lf k) (anZ lf k);rw[aoq]at z1 z2;rw[Hrt.o]at hkr R1;obtain⟨sh,Hsh⟩:=Nm (CY aA (kL9 lf k));obtain⟨wn,Hwn⟩:=Nm (CY rt (kL9 lf k));rw[Hsh.o]at z1 R0 hkr;rw[Hwn.o]at z2 R1 hkr;rw[Hsh.o,Hwn.o];have HKR:=hid hkr;clear hkr
  have BC:=hid (B3.o.trans (HC.o.mono hs3));have QC9:wc.heap[n1+1+1]?=_:=(HC.o.block _ (by have:=HNN.o;omega)).trans Q3.o;have y0:=(cells_at QC9 0).trans rfl;have y1:=(cells_at QC9 1).trans rfl;have y2:=(cells_at QC9 2).trans rfl;have y3:=(cells_at QC9 3).trans rfl;have y4:=(cells_at QC9 4).trans rfl;have y59:=(cells_at QC9 5).trans rfl;clear QC9;go_wp2_with fail;refine(YT w2.heap.size sh (Q9 rt) _ _ _ wc (P3.o.below HC.o (by have:=HNN.o;have:=Hn2.o;omega)) (HI.o.below BC.o nl) Xv (HL.o.below BC.o) (by have:=HRF.o.2.2.1;show rt.size<=_;omega) oo).mono ?_;rw[HKR.o];rintro e w5 ⟨rfl,hb5⟩;have B5:=hid (Ay BC.o hb5);clear hb5 y0 y1 y2 y3 y4 y59;go_wp2_with fail;refine pmb (agR w5 (HI.o.below B5.o nl) (HL.o.below B5.o)) fun w6 hb6=>?_
  have B6:=hid (Ay B5.o hb6);clear hb6 B5 BC;go_wp2_with fail;refine(ajY nn nf na nc B w6 (HRA.o.below B6.o hB) (by have:=B6.o.size;omega)).mono ?_;rintro e w7 ⟨dv,d,rfl,hM,hpg,⟨hdl,hd0⟩,hb7⟩;obtain⟨g,cap,rfl,hcap⟩:=hM.here (by rintro rfl;simp at hdl);have M7:=hid hM;have B67:=hid hb7;have hs7:=hb7.size;have HPG:=hid hpg;have HD0:=hid hd0;have HDL:=hid hdl;have hd1:0<d.length:=oo;clear hM hb7 hpg hd0 hdl;have A7:Hid (Below w7.heap.size w7 (w7.alloc (.cells #[.string rt] 9))):=As.alloc nl _;obtain⟨⟨u0,cu0⟩,fz,hgl,hgu⟩:=M7.o.cells5 (i:=0) hd1;have cu1:=fU A7.o cu0;rw[Nat.zero_mul,Nat.zero_add]at cu1;have fz1:(w7.alloc (.cells #[.string rt] 9)).frozen? ⟨g,3,none⟩=false:=aoV A7.o hgu (fz 3);clear cu0 fz;go_upto_region 23 with fail
  clear cu1 fz1;generalize hw8:World.alloc _ _=w8;have hx0:w7.setCell ⟨g,0*5+3,none⟩ (.slice (some ⟨w7.heap.size,0,none⟩) 1 1)=w7.setCell ⟨g,3,none⟩ (.slice (some ⟨w7.heap.size,0,none⟩) 1 1):=rfl;obtain⟨M8,B78,hs8⟩:=aoU M7.o hd1 (w':=w8) (s:=rt) (by have:=HRF.o.2.2.1;omega) hgl hgu (by rw[hx0];exact hw8);have hp8:=aoc hd1 (cl:=[rt]) HPG.o Aa (by rw[<-Hrt.o];exact aps ri la3);have he0:d[0]=alQ:=by have:=HD0.o;rw[List.getElem?_eq_getElem hd1]at this;exact Option.some.inj this
  have hq8:(d.set 0 (d[0].D6 [rt]))[0]?=some (alQ.D6 [rt]):=by rw[he0];simp[hd1]
  have hl8:(d.set 0 (d[0].D6 [rt])).length=d.length:=by simp
  generalize d.set 0 (d[0].D6 [rt])=d8 at *;have HM8:=hid M8;have HB8:=hid (B67.o.trans B78);have HP8:=hid hp8;have HQ8:=hid hq8;have HL8:Hid (d8.length=min nn 29+1):=by show _=_;rw[hl8];exact HDL.o
  rw[<-hl8]at HM8 hcap⊢;clear hw8 hx0 M8 B78 hp8 hq8 he0 hl8 hs8 hgl hgu M7 A7 HPG HD0 HDL hd1 hs7 B67;obtain⟨L,hL⟩:∃x,d8.length=x:=⟨_,rfl⟩;have HLL:Hid (L=min nn 29+1):=by show _=_;rw[<-hL];exact HL8.o
  have aqe:=hid hL;rw[hL]at HM8 hcap⊢;clear HL8 hL;have hL1:1<=L:=by have:=HLL.o;omega
  have aqh:L<=30:=by have:=HLL.o;omega
  have hs6:=B6.o.size;go_wp2_with fail;go_loopg[21] (L-1) (fun gg v21 wr=>∃(i:Nat) (dd:aI),v21=.int .i64 (i:Int)/\i+gg=L/\1<=i/\Aside (dd.length=L/\MG wO 5 35 w6.heap.size wr (.slice (some ⟨g,0,none⟩) L cap) dd/\iL dd=true/\dd[0]?=some (alQ.D6 [rt])/\Below w6.heap.size w6 wr));case atStart=>exact⟨1,d8,rfl,oo,oo,aqe.o,HM8.o,HP8.o,HQ8.o,HB8.o⟩
  case round=>
   obtain⟨i,dd,rfl,hi,hi1,hA⟩:=hrel;have HC:=hid hA.o;clear hA;by_cases hlt:i<L
   .have h1:(i:Int)<(L:Int):=oo;have apI:i<dd.length:=by rw[HC.o.1];exact hlt
    obtain⟨go,hgo⟩:∃q,q=gk:=⟨_,rfl⟩;obtain⟨⟨u0,cu0⟩,fz,hgl,hgu⟩:=HC.o.2.1.cells5 apI;have fz0:=fz (i*5+3);go_upto_region 27 with fail
    generalize hwa:World.setCell _ _ _=wa;have MA:=hid (HC.o.2.1.cls apI (cl:=[]) hwa (SG.iE _ _ _ _ _ _));have BA:Hid (Below w6.heap.size w6 wa):=by rw[<-hwa];exact HC.o.2.2.2.2.setCell (p:=⟨g,i*5+3,none⟩) hgl _
    have PA:=hid (aoc apI (cl:=[]) HC.o.2.2.1 Aa Aa);have QA9:Hid ((dd.set i (dd[i].D6 []))[0]?=some (alQ.D6 [rt])):=by show _=_;rw[List.getElem?_set_ne oo];exact HC.o.2.2.2.1
    have LA:Hid ((dd.set i (dd[i].D6 [])).length=L):=by show _=_;rw[List.length_set];exact HC.o.1
    generalize dd.set i (dd[i].D6 [])=da at *;clear hwa cu0 fz fz0 hgl hgu apI;obtain⟨j,hj⟩:∃j,j=i-1:=⟨_,rfl⟩;have e1:(i:Int)-1=(j:Int):=oo;have hjn:j<nn/\j<29:=by have:=HLL.o;omega
    have h3:(j:Int)<(nn:Int):=oo;have HIJ:Hid (i=j+1):=by show _=_;omega
    obtain⟨gn,on,rfl,hgB,⟨_,_,_,c3,_⟩,_,_,_,k3,_⟩:=(HRA.o.below (B6.o.trans (BA.o.mono hs6)) hB).2 j hjn.1 hjn.2;obtain⟨cl,Hcl⟩:=Nm ((nf j).cls);rw[Hcl.o]at c3 k3;clear hj hjn hgB;by_cases hev:Int.tmod cl 2=0
    focus
     obtain⟨⟨u0,cu0⟩,fz,hgl,hgu⟩:=MA.o.cells5 (i:=i) (by rw[LA.o];exact hlt);have A8:Hid (Below wa.heap.size wa (wa.alloc (.cells #[.string ⟨#[120]⟩] 9))):=As.alloc nl _;have cu1:=fU A8.o cu0;have fz1:(wa.alloc (.cells #[.string ⟨#[120]⟩] 9)).frozen? ⟨g,i*5+3,none⟩=false:=aoV A8.o hgu (fz _);clear cu0 fz;go_upto_region 29 with fail
     clear cu1 fz1;generalize hwb:World.alloc _ _=wb;obtain⟨M9,B9,_⟩:=aoU MA.o (by rw[LA.o];exact hlt) (w':=wb) (s:=⟨#[120]⟩) Ab hgl hgu hwb;have hp9:=aoc (i:=i) (by rw[LA.o];exact hlt) (cl:=[⟨#[120]⟩]) PA.o Aa Ab;have hq9:(da.set i ((da[i]'(by rw[LA.o];exact hlt)).D6 [⟨#[120]⟩]))[0]?=some (alQ.D6 [rt]):=by rw[List.getElem?_set_ne oo];exact QA9.o
     have hl9:(da.set i ((da[i]'(by rw[LA.o];exact hlt)).D6 [⟨#[120]⟩])).length=L:=by rw[List.length_set];exact LA.o
     generalize da.set i ((da[i]'(by rw[LA.o];exact hlt)).D6 [⟨#[120]⟩])=db at *;have HB:Hid (MG wO 5 35 w6.heap.size wb (.slice (some ⟨g,0,none⟩) L cap) db/\iL db=true/\db[0]?=some (alQ.D6 [rt])/\db.length=L/\Below w6.heap.size w6 wb):=⟨M9,hp9,hq9,hl9,BA.o.trans B9⟩;clear hwb M9 B9 hp9 hq9 hl9 hgl hgu A8 c3 MA PA QA9 LA BA
    rotate_left;focus
     go_upto_region 29 with fail
     generalize wa=wb at *;generalize da=db at *;have HB:Hid (MG wO 5 35 w6.heap.size wb (.slice (some ⟨g,0,none⟩) L cap) db/\iL db=true/\db[0]?=some (alQ.D6 [rt])/\db.length=L/\Below w6.heap.size w6 wb):=⟨MA.o,PA.o,QA9.o,LA.o,BA.o⟩;clear c3 MA PA QA9 LA BA
    all_goals
     have hsb:=HB.o.2.2.2.2.size;go_wp2_with fail;refine(ah7 wb).mono ?_;rintro e w9 ⟨qv,rfl,hA,hb9⟩;obtain⟨qa,qc,rfl⟩:=hA.form;rw[show Yg.length=6 from rfl]at hA⊢;have A9:Hid (SG eX 1 (fun b=>b<w9.heap.size) w9 (.slice qa 6 qc) Yg):=hA.keep eX.fair (fun g hg=>hg.2) (fun _ _=>rfl);have M9:=hid (HB.o.1.below wO.fair hb9);have B9:=hid (HB.o.2.2.2.2.trans (hb9.mono hsb));have D9:Hid (SG wO 5 (fun b=>b<w9.heap.size) w9 (.slice (some ⟨g,0,none⟩) L cap) db):=(M9.o.sl wO.fair wO.sized (by rw[HB.o.2.2.2.1];omega)).keep wO.fair (fun g hg=>hg.2) (fun _ _=>rfl);have hs9:=B9.o.size;have HKP:=hid (apV la3 HB.o.2.1 HB.o.2.2.1 (by rw[Hrt.o];rfl));have HT2:=hid (aoz HD.o (EZ t) la3 HB.o.2.2.1 rfl rfl (by rw[Hrt.o];rfl) (kL9 lf k) (anZ lf k));clear hA hb9
     obtain⟨lp,hlp⟩:=UY (yT (EZ t) db [sh]);obtain⟨lq,hlq⟩:=UY (yT (EZ t) db [wn]);have HLP:=hid hlp;have HLQ:=hid hlq;clear hlp hlq;go_wp2_with fail;go_loopg[23] 6 (fun gg v23 wi=>∃m:Nat,v23=.int .i64 (m:Int)/\m+gg=6/\Aside (Below w9.heap.size w9 wi));case atStart=>exact⟨0,rfl,oo,As⟩
     case round=>
      obtain⟨m,rfl,hm,hA⟩:=hrel;have HM:=hid hA.o;clear hA;by_cases hm6:m<6
      .have h2:(m:Int)<6:=oo;obtain⟨g',o',rfl,hL',hcap'⟩:=(A9.o.below eX.fair HM.o nl).here Ab;obtain⟨_,c0,_⟩:=hL'.str (i:=m) hm6;have aiI:=ask_size Yg[m] (List.getElem_mem hm6);generalize Yg[m]=qn at *;clear hL';have XW9:=hid (B6.o.trans ((B9.o.trans (HM.o.mono hs9)).mono hs6));have HA1:Hid (Below wr.heap.size wr (wr.alloc (.cells #[.string sh] 9))):=As.alloc nl _;have c1:=fU HA1.o c0;go_wp2_with fail;generalize hwx:World.alloc _ _=wx;obtain⟨qx0,hbx⟩:=qy hwx;have XA:=hid (Ay HM.o hbx);have YA9:=hid (Ay XW9.o hbx)
       have SA9:Hid (SG eX 1 (fun b=>b<wx.heap.size) wx (.slice (some ⟨wr.heap.size,0,none⟩) 1 1) [sh]):=Ph (l:=[sh]) rfl (Ax qx0) nl Aa (anV (l:=[sh]) qx0) (fun s hs=>by rw[List.mem_singleton.1 hs];omega);have c2:=fU hbx c0;clear hwx qx0 hbx c1 HA1 c0;have hdb:L=db.length:=HB.o.2.2.2.1.symm;have HDD:=hid ((D9.o.below wO.fair XA.o nl).mono wO.fair XA.o.size);refine(KJ (EZ t) lp wx.heap.size db (.slice (some ⟨g,0,none⟩) L cap) [sh] _ i qn wx HDD.o SA9.o nl (HL.o.below YA9.o) HB.o.2.1 oo Aa aiI (fun s hs=>by rw[List.mem_singleton.1 hs];omega) (ZM t wx (HL.o.below YA9.o) (HT.o.below YA9.o)) HLP.o HRD.o).mono ?_;rintro e w12 ⟨hcm,ah9⟩;have HX:=hid hcm;obtain⟨tx,ex,rfl,hex⟩:=Vd hcm
       have XJ:=hid (Ay XA.o ah9);have YJ9:=hid (Ay YA9.o ah9);have c3:=fU ah9 c2;have HA2:Hid (Below w12.heap.size w12 (w12.alloc (.cells #[.string wn] 9))):=As.alloc nl _;have c4:=fU HA2.o c3;clear hcm ah9 c2 SA9 HDD hdb;go_wp2_with fail;generalize hwy:World.alloc _ _=wy;obtain⟨qy0,hby⟩:=qy hwy;have XB9:=hid (Ay XJ.o hby);have YB9:=hid (Ay YJ9.o hby);have SB_:Hid (SG eX 1 (fun b=>b<wy.heap.size) wy (.slice (some ⟨w12.heap.size,0,none⟩) 1 1) [wn]):=Ph (l:=[wn]) rfl (Ax qy0) nl Aa (anV (l:=[wn]) qy0) (fun s hs=>by rw[List.mem_singleton.1 hs];omega);clear hwy qy0 hby c3 c4 HA2;have hdb:L=db.length:=HB.o.2.2.2.1.symm
       have HDD:=hid ((D9.o.below wO.fair XB9.o nl).mono wO.fair XB9.o.size);refine(KJ (EZ t) lq wy.heap.size db (.slice (some ⟨g,0,none⟩) L cap) [wn] _ i qn wy HDD.o SB_.o nl (HL.o.below YB9.o) HB.o.2.1 oo Aa aiI (fun s hs=>by rw[List.mem_singleton.1 hs];omega) (ZM t wy (HL.o.below YB9.o) (HT.o.below YB9.o)) HLQ.o HRD.o).mono ?_;rintro e w13 ⟨hcm,aak⟩;obtain⟨hsm,tz,htz⟩:=ao1 HKP.o (s:=sh) (s':=wn) (by rw[R0.o.2,R1.o.2,<-Hrt.o];exact HT2.o) R0.o.1 R1.o.1 HLP.o HLQ.o HX.o hcm;subst hsm;cases htz;have HM3:=hid (Ay XB9.o aak);clear hcm aak HX hex hdb HDD SB_;go_wp2_with fail;go_roundg(gk-1);case measure=>omega
       case rel=>exact⟨m+1,by congr 1,oo,HM3.o⟩
      .have h2:(6:Int)<=(m:Int):=oo;go_wp2_with fail;go_roundg(go-1);case measure=>omega
       case rel=>exact⟨i+1,db,by congr 1,oo,oo,HB.o.2.2.2.1,M9.o.below wO.fair HM.o,HB.o.2.1,HB.o.2.2.1,B9.o.trans (HM.o.mono hs9)⟩
   .have h1:(L:Int)<=(i:Int):=oo;go_wp2_with fail;go_ret;exact⟨rfl,B6.o.trans (HC.o.2.2.2.2.mono hs6)⟩
