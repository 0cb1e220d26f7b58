import Derived.Test.YtlliliddljkbfaaGreatC25
import Derived.Test.YtlliliddljkbfaaGreatC33
import Derived.Lib.SmallJoins
set_option maxHeartbeats 64000000
set_option maxRecDepth 100000
namespace Go.Proofs.YtlliliddljkbfaaGreat
open Go.Proofs.Tryz (prog)
open Go.RowKit Sp
structure Inn(p:aI)(r:BY)(I:Nat->Prop):Prop where
 cls:∀e,TQ p (fun x=>x.classes.contains r) e=true->I e
 par:∀e,0<=parentOf p e->I (parentOf p e).toNat->I e
def Sub(p:aI)(I:Nat->Prop)(e:Nat):Prop:=0<=parentOf p e/\I (parentOf p e).toNat
def Yf(p:aI)(I:Nat->Prop)(s:Nat):Prop:=∀e,s.testBit e=true->Sub p I e
theorem KL{s:Nat}{q:Int}:hasB s q=true↔0<=q/\s.testBit q.toNat=true:=by unfold hasB;simp
theorem P9{p:aI}{I:Nat->Prop}{r:BY}(hI:Inn p r I){s:Nat}(hs:∀e,s.testBit e=true->I e):∀k,Yf p I (mD p s k)
 |0,e,h=>by unfold mD at h;simp at h
 |k+1,e,h=>by
  have ih:=P9 hI hs k;unfold mD at h;split at h
  .rename_i hc;rw[Nat.testBit_or,Bool.or_eq_true]at h;rcases h with h|h
   .exact ih e h
   .rw[Nat.testBit_two_pow,decide_eq_true_eq]at h;subst h;rw[Bool.or_eq_true,KL,KL]at hc;rcases hc with⟨h1,h2⟩|⟨h1,h2⟩
    .exact⟨h1,hs _ h2⟩
    .exact⟨h1,hI.par _ (ih _ h2).1 (ih _ h2).2⟩
  .exact ih e h
theorem zx{p:aI}{q:Int}:∀(k j:Nat),j∈gJ p q k->parentOf p j=q
 |0,j,h=>by simp[gJ]at h
 |k+1,j,h=>by
  unfold gJ at h;split at h
  .rename_i hq;rcases List.mem_append.1 h with h|h
   .exact zx k j h
   .rw[List.mem_singleton.1 h];exact hq
  .exact zx k j h
theorem Sub.sib{p:aI}{I:Nat->Prop}{i j:Nat}(h:Sub p I j)(e:parentOf p j=parentOf p i):Sub p I i:=by unfold Sub at *;rw[<-e];exact h
theorem ah1{p:aI}{I:Nat->Prop}{r:BY}(hI:Inn p r I){s cb:Nat}(hs:Yf p I s)(hc:abj cb):Yf p I (GN p cb s):=by
 have hs':∀e,s.testBit e=true->I e:=fun e he=>hI.par e (hs e he).1 (hs e he).2;intro e he;unfold GN at he;rcases hc with rfl|rfl|rfl|rfl
 .rw[if_pos rfl]at he;exact P9 hI hs' _ e he
 .rw[if_neg (by decide),if_pos rfl,yC,Bool.and_eq_true,KL]at he;exact⟨he.2.1,hs' _ he.2.2⟩
 .rw[if_neg (by decide),if_neg (by decide),if_pos rfl,yC,Bool.and_eq_true]at he;have h2:=he.2;unfold wR at h2;split at h2
  .cases h2
  .rename_i k hk;exact(hs k h2).sib (zx _ _ (List.mem_of_getLast? hk))
 .rw[if_neg (by decide),if_neg (by decide),if_neg (by decide),if_pos rfl,yC,Bool.and_eq_true,List.any_eq_true]at he;obtain⟨_,j,hj,h2⟩:=he;exact(hs j h2).sib (zx _ _ hj)
theorem Qc(P:Simple->Nat):∀(l:List Simple) (s e:Nat),(Zt P s l).testBit e=true->s.testBit e=true
 |[],_,_,h=>h
 |x::r,s,e,h=>by have:=Qc P r (s &&& P x) e h;rw[Nat.testBit_and,Bool.and_eq_true]at this;exact this.1
theorem ZN{p:aI}{I:Nat->Prop}{r:BY}(hI:Inn p r I)(P:Simple->Nat):∀(cx:List Step) (s:Nat),Yf p I s->(∀st∈cx,abj st.1)->Yf p I (Kv p P s cx)
 |[],_,h,_=>h
 |(cb,all)::q,s,h,hc=>ZN hI P q _ (fun e he=>ah1 hI h (hc (cb,all) Ab) e (Qc P all _ e he)) (fun st hst=>hc st (by simp[hst]))
theorem ah2(F:lI)(p:aI)(r:BY):∀n,Me F p n (Simple.of 46 r)=jq (TQ p (fun x=>x.classes.contains r)) p.length
 |0=>by unfold Me Simple.of;rw[DN];unfold NQ;rw[if_pos oo];rfl
 |n+1=>by unfold Me Simple.of;rw[DN];unfold NQ;rw[if_pos oo];rfl
theorem ah3{p:aI}{I:Nat->Prop}{r:BY}(hI:Inn p r I)(F:lI)(n:Nat){cx:List Step}(h:Pre r cx):Yf p I (Kv p (Me F p n) 0 cx):=by obtain⟨c,rest,rfl,hr⟩:=h;show Yf p I (Kv p (Me F p n) (Zt (Me F p n) (GN p 32 (Zt (Me F p n) (GN p 0 0) [Simple.of 46 r])) c) rest);refine ZN hI _ rest _ (fun e he=>?_) hr;have h1:=Qc _ c _ e he;unfold GN at h1;rw[if_pos rfl]at h1;refine P9 hI (fun e he=>?_) _ e h1;have h2:(GN p 0 0 &&& Me F p n (Simple.of 46 r)).testBit e=true:=he;rw[Nat.testBit_and,Bool.and_eq_true,ah2,yC,Bool.and_eq_true]at h2;exact hI.cls e h2.2.2
theorem afB{e:Nat}:∀(cl:List Zd) (f:lU) (ok:Bool),(∀x∈cl,hasB x.1 (e:Int)=false)->(NC e f ok cl).2=ok
 |[],_,_,_=>rfl
 |x::r,f,ok,h=>by unfold NC;rw[if_neg (by rw[h x (by simp)];decide)];exact afB r f ok fun y hy=>h y (by simp[hy])
theorem ah4{p:aI}{I:Nat->Prop}{root:BY}(hI:Inn p root I)(hr:root≠aA)(F:lI){r:Rule}(h:wG root r){e:Nat}(he:¬I e)(g:BY->Option jS):yJ F p r e g=g:=by
 unfold yJ;split
 .rfl
 .rename_i ss hss;split
  .rename_i hat;rcases h with h|h
   .exact absurd hat h
   .unfold qg;rw[afB _ _ _ (fun x hx=>?_),if_neg (by decide)];obtain⟨cx,hcx,rfl⟩:=List.mem_map.1 hx;have h1:=ah3 hI F (depth r.head) (h hr ss hss cx hcx);cases hb:hasB (Ky F p (depth r.head) cx).1 (e:Int)with
    |false=>rfl
    |true=>rw[JO]at hb;have:=h1 e hb;exact absurd (hI.par e this.1 this.2) he
  .rfl
theorem afC{p:aI}{I:Nat->Prop}{root:BY}(hI:Inn p root I)(hr:root≠aA)(F:lI){e:Nat}(he:¬I e):∀(rs:List Rule) (g:BY->Option jS),(∀r∈rs,wG root r)->Gl F p e g rs=g
 |[],_,_=>rfl
 |r::rs,g,h=>by show Gl F p e (yJ F p r e g) rs=g;rw[ah4 hI hr F (h r (by simp)) he];exact afC hI hr F he rs g fun x hx=>h x (by simp[hx])
theorem U8[bV](s:BY)(p:aF):(∀r∈KR (dR s p).1,wG p.root r)/\depth (bH (dR s p).1)<=8:=by
 obtain⟨ps,ns,h1,h2,h3,h4,_,rs,h5,h6⟩:=Zm s p;have hc:=adQ (abq s p);generalize(dR s p).1=o at h1 hc;have ht:toks o=dA ps:=EI ps 0 o.size (by rw[<-h1];exact At.zero o) (h2 []) (by rw[<-h1];exact Nat.le_refl _);have hk:bH o=ns:=by unfold bH;rw[hc,ht];have:=h3 aA [] (fun h=>absurd rfl h);rw[List.append_nil]at this;unfold nodes;rw[this];simp[jB]
 unfold KR;rw[hk];have:=h5 [];rw[List.append_nil]at this;rw[this];have e:rules true []=[]:=by unfold rules fM;rfl
 rw[e,List.append_nil];exact⟨h6,h4⟩
theorem ah5[bV]{p:aI}{I:Nat->Prop}{pl:aF}(hI:Inn p pl.root I)(hr:pl.root≠aA)(F:lI)(sh:List BY)(s:BY){e:Nat}(he:¬I e):yT F p (sh++[(dR s pl).1]) e=yT F p sh e:=by unfold yT wZ;rw[List.map_append,List.foldl_append];exact afC hI hr F he _ _ (U8 s pl).1
theorem U9{p:aI}{I:Nat->Prop}{r:BY}(hI:Inn p r I){V V':Nat->BY->Option (List Nd)}{lp lp':Nat->BY->Bool}(hV:∀e,¬I e->V e=V' e)(hl:∀e,¬I e->lp e=lp' e):∀(n e:Nat),¬I e->wJ p V lp n e=wJ p V' lp' n e
 |0,_,_=>rfl
 |n+1,e,he=>by
  have ih:=U9 hI hV hl n;funext q
  show Bq p V lp (wJ p V lp n) e q=Bq p V' lp' (wJ p V' lp' n) e q;have hp:paV p (wJ p V lp n) e q=paV p (wJ p V' lp' n) e q:=by
   unfold paV;split
   .rfl
   .rename_i h0;rw[ih _ (fun hi=>he (hI.par e oo hi))]
  have hd:dnV p (wJ p V lp n) e q=dnV p (wJ p V' lp' n) e q:=by unfold dnV;rw[hp]
  unfold Bq;rw[hV e he,hl e he,hp,hd,ih e he]
theorem ah6{p:aI}{I:Nat->Prop}{r:BY}(hI:Inn p r I){V V':Nat->BY->Option (List Nd)}{lp lp':Nat->BY->Bool}(hV:∀e,¬I e->V e=V' e)(hl:∀e s,lp e s=true↔Sp.Way (yO V e) s s)(hl':∀e s,lp' e s=true↔Sp.Way (yO V' e) s s){e:Nat}(he:¬I e){q t t':BY}(h:Cv p V lp e q t)(h':Cv p V' lp' e q t'):t=t':=by
 have hL:∀e,¬I e->lp e=lp' e:=fun e he=>by
  funext s
  have e1:yO V e=yO V' e:=by funext q;unfold yO;rw[hV e he]
  rw[Bool.eq_iff_iff,hl,hl',e1]
 obtain⟨n,hn⟩:=h;obtain⟨m,hm⟩:=h';rw[<-hn (max n m) (Nat.le_max_left _ _),<-hm (max n m) (Nat.le_max_right _ _),U9 hI hV hL _ e he]
theorem Va:∀(p:aI) (k i:Nat) (h:i<p.length),gI k p=true->xC (k+i) p[i]=true
 |x::r,k,0,_,h=>by simp only[gI,Bool.and_eq_true]at h;exact h.1
 |x::r,k,i+1,hi,h=>by simp only[gI,Bool.and_eq_true]at h;have:=Va r (k+1) i (by simpa using hi) h.2;rw[show k+1+i=k+(i+1) by omega]at this;exact this
theorem Ij{p:aI}(h:iL p=true){i:Nat}(hi:i<p.length): -1<=p[i].parent/\p[i].parent<i:=by
 unfold iL at h;simp only[Bool.and_eq_true]at h;have:=Va p 0 i hi h.2;rw[RJ]at this;simp only[Bool.and_eq_true]at this;have h2:=this.1.1;unfold acW Wi at h2;simp only[Bool.and_eq_true]at h2;have h3:=h2.2;split at h3
 .simp at h3;omega
 .simp at h3;omega
inductive Vo (p:aI) (r:BY):Nat->Prop
 |cls (e:Nat):TQ p (fun x=>x.classes.contains r) e=true->Vo p r e
 |par (e:Nat):0<=parentOf p e->Vo p r (parentOf p e).toNat->Vo p r e
theorem Vo.inn(p:aI)(r:BY):Inn p r (Vo p r):=⟨Vo.cls,Vo.par⟩
def anb(p:aI)(r:BY)(e:Nat)(ex:Ending):Prop:=∃o:Bool,ex=.returned (.bool o)/\(o=true->¬Vo p r e)
theorem abO(B:Nat)(p:aI)(v:Av)(e:Nat)(r:BY)(w:WD)(h:SG wO 5 (fun b=>b<B) w v p)(hp:iL p=true)(he:e<p.length):
  Calls prog 23 #[v,.int .i64 (e:Int),.string r] w fun ex w'=>anb p r e ex/\w'=w:=by
 have HS:=hid h;have HP:=hid hp;have hl:=h.len;obtain⟨a,cap,rfl⟩:=h.form;clear h hp;go_in;go_wp2_with fail;go_loopg[1] (e+1) (fun gg v1 wr=>∃k:Int,v1=.int .i64 k /\ -1<=k/\k<gg/\k<p.length/\Aside ((Vo p r e->0<=k/\Vo p r k.toNat)/\w=wr));case atStart=>exact⟨(e:Int),rfl,oo,oo,oo,fun h=>⟨oo,by simpa using h⟩,rfl⟩
 case round=>
  obtain⟨k,rfl,hk0,hk1,hk2,hA⟩:=hrel;have HA:=hid hA.o.1;obtain rfl:=hA.o.2;clear hA;by_cases h0:0<=k
  .obtain⟨n,rfl⟩:=Int.eq_ofNat_of_zero_le h0;have hn:n<p.length:=oo;have h1:(n:Int)<(p.length:Int):=oo;have hge:(0:Int)<=((n:Nat):Int):=oo;obtain⟨g,o,rfl,hL,hcap⟩:=HS.o.here (by rintro rfl;simp at hn);obtain⟨cv,av,hX⟩:=hL.el (i:=n) hn;obtain⟨ca,cc,rfl⟩:=hX.cl.form;obtain⟨c0,c3⟩:_/\_:=⟨hX.c0,hX.c3⟩;have HCL:=hid hX.cl;have hpar:=Ij HP.o hn;have HW:Hid (TQ p (fun x=>x.classes.contains r) n=p[n].classes.contains r):=hid (ad8 hn);have HPA:Hid (parentOf p n=p[n].parent):=hid (ng hn);generalize p[n]=x at *;obtain⟨q,Hq⟩:=Nm x.parent;rw[Hq.o]at c0 hpar HPA;obtain⟨z,Hz⟩:=Nm (x.classes.contains r);rw[Hz.o]at HW;have HWC:=hid (adV x.classes _ r _ w HCL.o);rw[Hz.o]at HWC;obtain⟨m,Hm⟩:=Nm x.classes.length;rw[Hm.o]at c3 HWC;clear hX hL HCL
   go_wp2_with fail;refine HWC.o.mono ?_;rintro ex wq ⟨rfl,hwq⟩;rw[hwq];clear hwq;cases z
   .have HN:Hid (Vo p r e->0<=q/\Vo p r q.toNat):=fun hi=>by
     obtain⟨_,h2⟩:=HA.o hi;have h3:Vo p r n:=h2;cases h3 with
     |cls _ hc=>rw[HW.o]at hc;cases hc
     |par _ ha hb=>rw[HPA.o]at ha hb;exact⟨ha,hb⟩
    go_wp2_with fail;go_roundg n;case measure=>omega
    case rel=>exact⟨q,rfl,oo,oo,oo,HN.o,rfl⟩
   .go_wp2_with fail;go_ret;exact⟨⟨false,rfl,fun h=>by cases h⟩,rfl⟩
  .have hlt:k<0:=oo;go_wp2_with fail;go_ret;exact⟨⟨true,rfl,fun _ hi=>by have:=(HA.o hi).1;omega⟩,rfl⟩
def Yg:List BY:=[⟨#[99,111,108,111,114]⟩,⟨#[119,105,100,116,104]⟩,⟨#[45,45,120]⟩,⟨#[45,45,121]⟩,⟨#[113,117,111,116,101,115]⟩,⟨#[99,111,110,116,101,110,116]⟩]
theorem ah7(w:WD):Calls prog 24 #[] w fun e w'=>∃v,e=.returned v/\SG eX 1 (oD w.heap.size w') w' v Yg/\Below w.heap.size w w':=by go_in;go_wp2_with fail;go_ret;have hn:=heap_alloc_new w (.cells #[.string ⟨#[99,111,108,111,114]⟩,.string ⟨#[119,105,100,116,104]⟩,.string ⟨#[45,45,120]⟩,.string ⟨#[45,45,121]⟩,.string ⟨#[113,117,111,116,101,115]⟩,.string ⟨#[99,111,110,116,101,110,116]⟩] 9);refine⟨_,rfl,Ph (l:=Yg) (n:=6) rfl ⟨Nat.le_refl _,by simp⟩ Al Al (fun i hi=>?_) Al,Ax.alloc nl _⟩;rw[Nat.zero_add,cells_at hn];have hi6:i<6:=hi;rcases(show i=0\/i=1\/i=2\/i=3\/i=4\/i=5 by omega)with rfl|rfl|rfl|rfl|rfl|rfl<;>rfl
def Vb(B:Nat)(w:WD)(a:Option Addr)(n:Nat)(f:Nat->BY):Prop:=n<=9223372036854775807/\∀i,i<n->i<3->∃g o,a=some ⟨g,o,none⟩/\g<B/\w.cell? ⟨g,o+i,none⟩=some (.string (f i))/\(f i).size<=9223372036854775807
theorem Vb.below{B B':Nat}{w w':WD}{a:Option Addr}{n:Nat}{f:Nat->BY}(h:Vb B w a n f)(hb:Below B' w w')(hB:B<=B'):Vb B w' a n f:=by refine⟨h.1,fun i hi h3=>?_⟩;obtain⟨g,o,h1,h2,h4,h5⟩:=h.2 i hi h3;exact⟨g,o,h1,h2,(World.cell?_of_block (w:=w) (hb.block g oo)).trans h4,h5⟩
def KT(f:Nat->BY):Nat->List BY
 |0=>[]
 |i+1=>KT f i++[qx (f i)]
theorem sW(f:Nat->BY):∀i,(KT f i).length=i
 |0=>rfl
 |i+1=>by unfold KT;rw[List.length_append,sW f i];rfl
theorem yU(f:Nat->BY):∀i,∀s∈KT f i,s.size<=600
 |0,s,h=>by cases h
 |i+1,s,h=>by
  unfold KT at h;rcases List.mem_append.1 h with h|h
  .exact yU f i s h
  .rw[List.mem_singleton.1 h];exact yB _
theorem abP(l:List BY)(s:BY):dM l++[.string s]=dM (l++[s]):=by unfold dM;simp
theorem qI.sg{w:WD}{base:Nat}{u:Av}{l:List BY}(h:qI w base u l)(hl:l.length<=100)(hz:∀s∈l,s.size<=4194304):SG eX 1 (fun b=>b<w.heap.size) w u l:=by
 rcases h with⟨rfl,rfl⟩|⟨g,o,cap,rfl,_,⟨cur,hc⟩,hcap,h1,_⟩
 .exact SG.iE _ _ _ _ _ _
 .refine⟨_,cap,rfl,⟨hcap,oo⟩,fun _=>⟨g,o,rfl,Pg (S:=fun b=>b<w.heap.size) (w:=w) (b:=g) ((Ay hc)) l o (fun i hi=>h1 i l[i] (List.getElem?_eq_getElem hi)) hz⟩⟩
theorem afD[bV]{F:lI}{p:aI}{pl:aF}(hr:pl.root≠aA){sh:List BY}{s:BY}{lp lp':Nat->BY->Bool}{e:Nat}{q:BY}(he:¬Vo p pl.root e)
  (hl:∀e s,lp e s=true↔Sp.Way (yO (kJ (yT F p sh)) e) s s) (hl':∀e t,lp' e t=true↔Sp.Way (yO (kJ (yT F p (sh++[(dR s pl).1]))) e) t t)
  {x y:Ending} (hx:cmR F lp p sh e q x) (hy:cmR F lp' p (sh++[(dR s pl).1]) e q y):x=y/\∃t,(x=.returned (.tuple #[.string t,.int .i64 0])\/x=.returned (.tuple #[.string t,.int .i64 2])):=by
 have hd:nY (sh++[(dR s pl).1])=nY sh:=by have:=(U8 s pl).2;unfold nY;rw[List.any_append];simp;omega
 unfold cmR at hx hy;rw[hd]at hy;split at hx
 .rename_i h;rw[if_pos h]at hy;exact⟨hx.trans hy.symm,_,.inr hx⟩
 .rename_i h;rw[if_neg h]at hy;obtain⟨t,h1,h2⟩:=hx;obtain⟨t',h3,h4⟩:=hy;have:=ah6 (Vo.inn p pl.root) (V:=kJ (yT F p sh)) (V':=kJ (yT F p (sh++[(dR s pl).1]))) (fun e he=>by funext q;unfold kJ;rw[ah5 (Vo.inn p pl.root) hr F sh s he]) hl hl' he h2 h4;subst this;exact⟨h1.trans h3.symm,t,.inl h1⟩
theorem Vd{F:lI}{lp:Nat->BY->Bool}{p:aI}{sh:List BY}{e:Nat}{q:BY}{ex:Ending}(h:cmR F lp p sh e q ex):∃(t:BY) (er:Int),ex=.returned (.tuple #[.string t,.int .i64 er])/\(er=0\/er=2):=by
 unfold cmR at h;split at h
 .exact⟨_,2,h,.inr rfl⟩
 .obtain⟨t,h1,_⟩:=h;exact⟨t,0,h1,.inl rfl⟩
theorem ask_size:∀s∈Yg,s.size<=100:=by decide
theorem ah8(a b c:Int):(Bd a b c).root≠aA:=by have h:=jJ a (n:=3) oo;show rX (bK a 3)≠aA;rcases(show bK a 3=0\/bK a 3=1\/bK a 3=2 by omega)with e|e|e<;>rw[e]<;>decide
theorem Yh[bV](t:Nat->Int)(s:BY)(la:Option Addr)(ln lc:Nat)(lf:Nat->XF)(ha_:Option Addr)(hn hc_:Nat)(hf:Nat->BY)(a b c:Int)(B:Nat)(w:WD)(hs:s.size<=9223372036854775807)(hR:XG B w la ln lf)(hH:Vb B w ha_ hn hf)(hB:B<=w.heap.size)
  (ha: -9223372036854775808<=a/\a<=9223372036854775807) (hb: -9223372036854775808<=b/\b<=9223372036854775807) (hc: -9223372036854775808<=c/\c<=9223372036854775807) (hI:jD w) (hl:Lit w) (ht:Gq t w) (hrd:∀f,vK f):
  Calls prog 8 #[.string s,.slice la ln lc,.slice ha_ hn hc_,.int .i64 a,.int .i64 b,.int .i64 c] w fun e w'=>e=.returned (.bool true)/\Below w.heap.size w w':=by
 have HI:=hid hI;have HL:=hid hl;have HT:=hid ht;have HRA:=hid hR;have HHA:=hid hH;have HRD:=hid hrd;have hhn:=hH.1;clear hI hl ht hR hH hrd;obtain⟨iS,wK⟩:=info_str;have HIS:=hid wK;clear wK;go_in;go_wp2_with fail;refine(adW a b c w ha hb hc).mono ?_;rintro e w1 ⟨pv,fv,av,rfl,hP,hb1⟩;have akC:=agT a b c;have ami:=aa3 a b c;obtain⟨p,Hp⟩:=Nm (Bd a b c);rw[Hp.o]at hP akC ami;rw[Hp.o];obtain⟨pa,pc,rfl⟩:=hP.props.form;obtain⟨fa,fc,rfl⟩:=hP.aJ.form;obtain⟨aa,ac,rfl⟩:=hP.ats.form;have P1:=hid hP;have B1:=hid hb1;have HPO:=hid akC;clear hP hb1 akC;unfold dF;go_upto_region 2 with fail
 generalize hw2:World.alloc _ _=w2;obtain⟨q2,hb2⟩:=qy hw2;obtain⟨n,Hn⟩:=Nm w1.heap.size;rw[Hn.o]at q2;rw[Hn.o];have Q2:Hid (w2.heap[n]?=_):=q2;have B2:=hid (AC B1.o hb2);have P2:=hid (P1.o.below hb2 P1.o.lt);clear hw2 q2 hb2 B1 P1;go_wp2_with fail;refine pmb (agR w2 (HI.o.below B2.o nl) (HL.o.below B2.o)) fun w3 hb3=>?_;have Q3:Hid (w3.heap[n]?=_):=AE hb3 Q2.o;have B3:=hid (AC B2.o hb3);have P3:=hid (P2.o.below hb3 P2.o.lt);clear hb3 Q2 B2 P2;go_wp2_with fail
 refine wp_region_any Ao ?_;change wpAny _ _ _ _ _ _ _ (World.drew _);obtain⟨wz,hwz⟩:∃x,World.drew w3=x:=⟨_,rfl⟩;have hz:Below w3.heap.size w3 wz:=by rw[<-hwz];exact Ax.drew
 rw[hwz];have QZ:Hid (wz.heap[n]?=some (.cells #[.string p.root,.slice pa p.props.length pc,.slice fa p.aJ.length fc,.slice aa p.ats.length ac,.bool p.aU,.bool p.texts] 41 (0,0))):=AE hz Q3.o;have BZ:=hid (AC B3.o hz);have PZ:=hid (P3.o.below hz P3.o.lt);clear hz hwz Q3 B3 P3;obtain⟨o,Ho⟩:=Nm ((dR (qx s) p).1);obtain⟨er,Her⟩:=Nm ((dR (qx s) p).2);have HER:Hid (er=0\/(er=2/\o=aA)):=by have:=aa4 (s:=qx s) HPO.o (yB s);rw[Ho.o,Her.o]at this;exact this
 have hos:o.size<=1200000000:=by have:=Xx (s:=qx s) ami;rw[Ho.o]at this;exact this
 refine wpAny_of_held (S:=fun wx=>wx.heap[n]?=some (.cells #[.string p.root,.slice pa p.props.length pc,.slice fa p.aJ.length fc,.slice aa p.ats.length ac,.bool p.aU,.bool p.texts] 41 (0,0))) _ _ _ _ ?_;refine dH 0 rfl QZ.o (by intro w hSw;(have z0:=(cells_at hSw 0).trans rfl;have z1:=(cells_at hSw 1).trans rfl;have z2:=(cells_at hSw 2).trans rfl;have z3:=(cells_at hSw 3).trans rfl;have z4:=(cells_at hSw 4).trans rfl;have z5:=(cells_at hSw 5).trans rfl);exact gs) ?_;refine dH 2 rfl QZ.o (by intro w hSw;(have z0:=(cells_at hSw 0).trans rfl;have z1:=(cells_at hSw 1).trans rfl;have z2:=(cells_at hSw 2).trans rfl;have z3:=(cells_at hSw 3).trans rfl;have z4:=(cells_at hSw 4).trans rfl;have z5:=(cells_at hSw 5).trans rfl);exact gs) ?_;refine iW 1 fun K hK=>?_;go_simp;refine pmb (Y9 s wz hs) fun wq hwq=>?_
 rw[hwq];clear hwq;refine hK.o _ _ QZ.o (fun _=>?_);clear hK K;refine iW 3 fun K hK=>?_;go_simp;refine(YT w1.heap.size (qx s) p _ _ _ wz PZ.o (HI.o.below BZ.o nl) Xv (HL.o.below BZ.o) oo (by have:=yB s;omega)).mono ?_;rw[Ho.o,Her.o];rintro e w5 ⟨rfl,hb5⟩;have Q5:Hid (w5.heap[n]?=some (.cells #[.string p.root,.slice pa p.props.length pc,.slice fa p.aJ.length fc,.slice aa p.ats.length ac,.bool p.aU,.bool p.texts] 41 (0,0))):=AE hb5 QZ.o;have B5:=hid (AC BZ.o hb5);have P5:=hid (PZ.o.below hb5 PZ.o.lt);clear hb5 QZ BZ PZ;refine hK.o _ _ Q5.o (fun _=>?_);clear hK K;refine iW 4 fun K hK=>?_;go_simp;refine hK.o _ _ (Q5.o) (fun _=>?_);clear hK K
 refine dH 5 rfl Q5.o (fun _ _=>gs) ?_;refine dH 6 rfl Q5.o (fun _ _=>gs) ?_;refine iW 7 fun K hK=>?_;go_simp;refine hK.o _ _ (Q5.o) (fun _=>?_);clear hK K;refine iW 8 fun K hK=>?_;go_simp;refine hK.o _ _ (Q5.o) (fun _=>?_);clear hK K;refine wpAnyH_done Ao ?_ _;have z0:=(cells_at Q5.o 0).trans rfl;have z1:=(cells_at Q5.o 1).trans rfl;have z2:=(cells_at Q5.o 2).trans rfl;have z3:=(cells_at Q5.o 3).trans rfl;have z4:=(cells_at Q5.o 4).trans rfl;have z5:=(cells_at Q5.o 5).trans rfl;have HRT:=hid (ah8 a b c);rw[Hp.o]at HRT;rcases HER.o with h0|⟨h0,h1⟩
 .subst h0;by_cases h6:o.size<=600
  .have h6':(o.size:Int)<=600:=oo;go_wp2_with fail;refine(ajZ ln lf la lc B w5 (HRA.o.below B5.o hB) (by have:=B5.o.size;omega)).mono ?_;rintro e w6 ⟨dv,d,rfl,hD,hpg,hb6⟩;obtain⟨da,dc,rfl⟩:=hD.form;have Q6:Hid (w6.heap[n]?=some (.cells #[.string p.root,.slice pa p.props.length pc,.slice fa p.aJ.length fc,.slice aa p.ats.length ac,.bool p.aU,.bool p.texts] 41 (0,0))):=AE hb6 Q5.o;have B6:=hid (AC B5.o hb6);have D6:Hid (SG wO 5 (fun b=>b<w6.heap.size) w6 (.slice da d.length dc) d):=hD.keep wO.fair (fun g hg=>hg.2) (fun _ _=>rfl);have HPG:=hid hpg;have hs6:=B6.o.size;clear hD hpg hb6 Q5 B5 P5 z0 z1 z2 z3 z4 z5;go_upto_block 0 with fail
   go_cut [18] (fun s18 wx=>∃(u:Av) (k:Nat),u=s18/\k<=3/\Aside (wx.ownsRow w6.heap.size 9 1 u k (dM (KT hf k))/\Below w6.heap.size w6 wx));case first=>
    go_wp2_with fail;go_loopg[18,19] hn (fun gg v18 v19 wr=>∃(u:Av) (i:Nat),u=v18/\v19=.int .i64 (i:Int)/\i+gg=hn/\i<=3/\Aside (wr.ownsRow w6.heap.size 9 1 u i (dM (KT hf i))/\Below w6.heap.size w6 wr));case atStart=>exact⟨_,0,rfl,rfl,oo,oo,World.ownsRow_nil _ _ _ _,Ax⟩
    case round=>
     obtain⟨u,i,rfl,rfl,hi,hi3,hA⟩:=hrel;have HC:=hid hA.o;clear hA;have hsr:=HC.o.2.size;by_cases hlt:i<hn
     .have h1:(i:Int)<(hn:Int):=oo;by_cases h3:i<3
      .have h3':(i:Int)<3:=oo;obtain⟨g,o',rfl,hgB,c0,hsz⟩:=(HHA.o.below (B6.o.trans (HC.o.2.mono hs6)) hB).2 i hlt h3;obtain⟨x,Hx⟩:=Nm (hf i);rw[Hx.o]at c0 hsz;go_wp2_with fail;refine pmb (Y9 x wr hsz) fun wq hwq=>?_;rw[hwq];clear hwq;have HO:Hid ((wr.alloc (.cells #[.string (qx x)] 9)).ownsRow w6.heap.size 9 1 u i (dM (KT hf i))):=TG HC.o.1 (Ax.alloc nl _);go_wp2_with(at_builtin;go_must(refine wpList_append_own_at _ rfl _ _ 26 rfl w6.heap.size 9 iS (.string ⟨#[]⟩) 1 16 Tryz.underlying26 HIS.o.1 HIS.o.2.1 HIS.o.2.2.1 HIS.o.2.2.2 rfl oo u i (dM (KT hf i)) rfl HO.o ⟨wr.heap.size,0,none⟩ 1 1 [.string (qx x)] rfl rfl (nO _ _ _) (by simp[Value.oneCell']) As oo An ?_));intro v7 w7 wM Es _ _
       have hb7:Below w6.heap.size wr w7:=(Ax.alloc oo _).grown Es An (fun rr hr=>(HO.o.lt rr hr).1);have HE:Hid (w7.ownsRow w6.heap.size 9 1 v7 (i+1) (dM (KT hf (i+1)))/\Below w6.heap.size w6 w7):=⟨by unfold KT;rw[Hx.o,<-abP];exact wM,HC.o.2.trans hb7⟩;clear wM Es hb7 HO;go_wp2_with fail;go_roundg(gk-1);case measure=>omega
       case rel=>exact⟨v7,i+1,rfl,by congr 1,oo,oo,HE.o⟩
      .have h3':(3:Int)<=(i:Int):=oo;go_wp2_with fail;go_meet
       exact⟨u,i,rfl,hi3,HC.o⟩
     .have h1:(hn:Int)<=(i:Int):=oo;go_wp2_with fail;go_meet
      exact⟨u,i,rfl,hi3,HC.o⟩
   case rest=>
    obtain⟨u,k,rfl,hk3,hA⟩:=hcut;have HC:=hid hA.o;clear hA;have hsc:=HC.o.2.size;have HQ0:Hid (qI wc wc.heap.size (.slice none 0 0) []):=.inl ⟨rfl,rfl⟩;have HOW:Hid (wc.ownsRow w6.heap.size 9 1 u (KT hf k).length (dM (KT hf k))):=by show wc.ownsRow _ _ _ _ _ _;rw[sW];exact HC.o.1
    go_wp2_with(at_builtin;go_must(refine KG rfl _ _ rfl wc.heap.size (.slice none 0 0) [] rfl HQ0.o u (KT hf k) rfl HOW.o (by rw[sW];simp;omega) nl ?_));intro v8 w8 hq8 hg8;have HQ8:=hid hq8;have B8:=hid hg8.below;clear hq8 hg8;have hs8:=B8.o.size;have HQ9:Hid (qI (w8.alloc (.cells #[.string o] 9)) wc.heap.size v8 (KT hf k)):=HQ8.o.below (Ax.alloc nl _);have HO9:Hid ((w8.alloc (.cells #[.string o] 9)).ownsRow w8.heap.size 9 1 (.slice (some ⟨w8.heap.size,0,none⟩) 1 1) [o].length (dM [o])):=Za [o] rfl (heap_alloc_new _ _) nl oo;go_wp2_with(at_builtin;go_must(refine KG rfl _ _ rfl wc.heap.size v8 (KT hf k) rfl HQ9.o (.slice (some ⟨w8.heap.size,0,none⟩) 1 1) [o] rfl HO9.o (by rw[sW];simp;omega) An ?_));intro v9 w9 hq9 hg9
    have BC9:Hid (Below wc.heap.size wc w9):=B8.o.trans (((Below.refl wc.heap.size w8).alloc hs8 _).trans hg9.below);have W9:Hid (SG eX 1 (fun b=>b<w9.heap.size) w9 v9 (KT hf k++[o])):=hq9.sg (by rw[List.length_append,sW];simp;omega) (fun s hs=>by
     rcases List.mem_append.1 hs with hs|hs
     .have:=yU hf k s hs;omega
     .rw[List.mem_singleton.1 hs];omega)
    have S9:Hid (SG eX 1 (fun b=>b<w9.heap.size) w9 u (KT hf k)):=(qI.of (TG HOW.o BC9.o)).sg (by rw[sW];omega) (fun s hs=>by have:=yU hf k s hs;omega);have B69:=hid (HC.o.2.trans (BC9.o.mono hsc));have D9:=hid ((D6.o.below wO.fair B69.o nl).mono wO.fair B69.o.size);have Q9:Hid (w9.heap[n]?=some (.cells #[.string p.root,.slice pa p.props.length pc,.slice fa p.aJ.length fc,.slice aa p.ats.length ac,.bool p.aU,.bool p.texts] 41 (0,0))):=AE B69.o Q6.o;have B9:=hid (B6.o.trans (B69.o.mono hs6));have hdl:=D9.o.len;have hs9:=B9.o.size;clear hq9 hg9 HQ8 HQ9 HO9 B8 BC9 B69 HC HOW HQ0 D6 Q6 B6;obtain⟨lp,hlp⟩:=UY (yT (EZ t) d (KT hf k))
    obtain⟨lq,hlq⟩:=UY (yT (EZ t) d (KT hf k++[o]));have HLP:=hid hlp;have HLQ:=hid hlq;clear hlp hlq;go_wp2_with fail;go_loopg[21] d.length (fun gg v21 wr=>∃i:Nat,v21=.int .i64 (i:Int)/\i+gg=d.length/\Aside (Below w9.heap.size w9 wr));case atStart=>exact⟨0,rfl,oo,Ax⟩
    case round=>
     obtain⟨i,rfl,hi,hA⟩:=hrel;have HC:=hid hA.o;clear hA;by_cases hlt:i<d.length
     .have h1:(i:Int)<(d.length:Int):=oo;have z0:=(cells_at (AE HC.o Q9.o) 0).trans rfl;go_wp2_with fail;refine(abO w9.heap.size d _ i p.root wr (D9.o.below wO.fair HC.o nl) HPG.o hlt).mono ?_;rintro e wq ⟨⟨ob,rfl,hob⟩,hwq⟩;rw[hwq];have HOB:=hid hob;clear hwq hob z0;cases ob
      .go_wp2_with fail;go_roundg(gk-1);case measure=>omega
       case rel=>exact⟨i+1,by congr 1,oo,HC.o⟩
      .have HNI:=hid (HOB.o rfl);obtain⟨go,hgo⟩:∃q,q=gk:=⟨_,rfl⟩;go_wp2_with fail;refine(ah7 wr).mono ?_;rintro e w11 ⟨qv,rfl,hA,amj⟩;obtain⟨qa,qc,rfl⟩:=hA.form;rw[show Yg.length=6 from rfl]at hA⊢;have A11:Hid (SG eX 1 (fun b=>b<w11.heap.size) w11 (.slice qa 6 qc) Yg):=hA.keep eX.fair (fun g hg=>hg.2) (fun _ _=>rfl);have X11:=hid (AC HC.o amj);have hs11:=X11.o.size;clear hA amj;go_wp2_with fail;go_loopg[24] 6 (fun gg v24 wi=>∃m:Nat,v24=.int .i64 (m:Int)/\m+gg=6/\Aside (Below w11.heap.size w11 wi));case atStart=>exact⟨0,rfl,oo,Ax⟩
       case round=>
        obtain⟨m,rfl,hm,hA⟩:=hrel;have HM:=hid hA.o;clear hA;by_cases hm6:m<6
        .have h2:(m:Int)<6:=oo;have XI:=hid (X11.o.trans (HM.o.mono hs11));obtain⟨g,o',rfl,hL,hcap⟩:=(A11.o.below eX.fair HM.o nl).here Al;obtain⟨_,c0,_⟩:=hL.str (i:=m) hm6;have aiI:=ask_size Yg[m] (List.getElem_mem hm6);generalize Yg[m]=qn at *;clear hL;have CX:=KJ (EZ t) lp w9.heap.size d (.slice da d.length dc) (KT hf k) u i qn wr (D9.o.below wO.fair XI.o nl) (S9.o.below eX.fair XI.o nl) XI.o.size (HL.o.below (B9.o.trans (XI.o.mono hs9))) HPG.o hlt (by rw[sW];omega) aiI (yU hf k) (ZM t wr (HL.o.below (B9.o.trans (XI.o.mono hs9))) (HT.o.below (B9.o.trans (XI.o.mono hs9)))) HLP.o HRD.o;go_wp2_with fail;refine CX.mono ?_;rintro e w12 ⟨hcm,ah9⟩;obtain⟨tx,ex,rfl,hex⟩:=Vd hcm;have HX:=hid hcm;have XJ:=hid (AC XI.o ah9)
         have HM2:=hid (AC HM.o ah9);have c1:=fU ah9 c0;clear hcm ah9 c0 CX;have CY:=KJ (EZ t) lq w9.heap.size d (.slice da d.length dc) (KT hf k++[o]) v9 i qn w12 (D9.o.below wO.fair XJ.o nl) (W9.o.below eX.fair XJ.o nl) XJ.o.size (HL.o.below (B9.o.trans (XJ.o.mono hs9))) HPG.o hlt (by rw[List.length_append,sW];simp;omega) aiI (fun s hs=>by
          rcases List.mem_append.1 hs with hs|hs
          .exact yU hf k s hs
          .rw[List.mem_singleton.1 hs];exact h6) (ZM t w12 (HL.o.below (B9.o.trans (XJ.o.mono hs9))) (HT.o.below (B9.o.trans (XJ.o.mono hs9)))) HLQ.o HRD.o
         go_wp2_with fail;refine CY.mono ?_;rintro e w13 ⟨hcm,aak⟩;obtain⟨ty,ey,rfl,hey⟩:=Vd hcm;have HM3:=hid (AC HM2.o aak);have hsame:Ending.returned (.tuple #[.string tx,.int .i64 ex])=Ending.returned (.tuple #[.string ty,.int .i64 ey]):=by have e1:=Ho.o;have hl1:=HLQ.o;rw[<-e1]at hl1 hcm;exact(afD (s:=qx s) (pl:=p) HRT.o HNI.o HLP.o hl1 HX.o hcm).1
         simp at hsame;obtain⟨rfl,rfl⟩:=hsame;clear hcm aak CY HX hey c1;rcases hex with rfl|rfl;all_goals
          go_wp2_with fail;go_roundg(gk-1);case measure=>omega
          case rel=>exact⟨m+1,by congr 1,oo,HM3.o⟩
        .have h2:(6:Int)<=(m:Int):=oo;have XI:=hid (X11.o.trans (HM.o.mono hs11));go_wp2_with fail;go_roundg(go-1);case measure=>omega
         case rel=>exact⟨i+1,by congr 1,oo,XI.o⟩
     .have h1:(d.length:Int)<=(i:Int):=oo;go_wp2_with fail;go_ret;exact⟨rfl,B9.o.trans (HC.o.mono hs9)⟩
  .have h6':(600:Int)<(o.size:Int):=oo;go_wp2_with fail;go_ret;exact⟨rfl,B5.o⟩
 .clear h1;subst h0;go_wp2_with fail;go_ret;exact⟨rfl,B5.o⟩
end Go.Proofs.YtlliliddljkbfaaGreat
namespace Go.Proofs.YtlliliddljkbfaaGreat
open Go.Proofs.Tryz (prog)
open Go.RowKit Sp Go.ChangeShapes Go.WideShapes Go.ChangeAt
theorem abQ:prog.cellsOf 9=1:=by kernel_rfl
theorem Ob:prog.cellsOf 57=5:=by kernel_rfl
theorem KN{W:WD}{a:Addr}{v:Av}(h:W.cell? (a.add 0)=some v):∃g o,a=⟨g,o,none⟩:=by
 have e:a.add 0=a:=by unfold Addr.add;rw[if_pos rfl]
 rw[e]at h;obtain⟨g,o,sp⟩:=a;have hs:sp=none:=World.cell?_spot h;exact⟨g,o,by rw[hs]⟩
section
variable {H:Type} {enc:TypeId × Av->H} {W:WD}
theorem abR{fuel:Nat}{cs:List Av}{x:DataW H×List MemPlace}(h:DataW.trod enc prog W 0 (fun _=>true) true fuel 26 cs=some x):
  ∃a n cap f,cs=[.slice a n cap]/\Vb W.heap.size W a n f:=by
 rcases open_strings Tryz.underlying26 Tryz.underlying9 abQ h with⟨hcs,_⟩|⟨a,len,cap,ss,hcs,_,hl,hm,hz,hx,hcell,hsz⟩
 .exact⟨none,0,0,fun _=>aA,hcs,oo,fun i hi=>by omega⟩
 .simp only[if_true]at hz;refine⟨some a,len,cap,fun i=>ss.getD i ByteArray.empty,hcs,by unfold maxLen at hm;omega,fun i hi _=>?_⟩;obtain⟨g,o,rfl⟩:=KN (hcell 0 oo);have hc:=hcell i oo;rw[Addr.add_lit]at hc;refine⟨g,o,rfl,World.block_lt_of_cell? W _ hc,hc,?_⟩;have hi':i<ss.length:=oo;have:=hsz (ss.getD i ByteArray.empty) (by rw[List.getD_eq_getElem?_getD,List.getElem?_eq_getElem hi'];exact List.getElem_mem hi');unfold maxLen at this;omega
theorem akD{n:Int}(h:(Lit.int .i64 n).wf=true):Ql n:=by
 unfold Lit.wf at h;simp only[Bool.and_eq_true,decide_eq_true_eq]at h;have e1:IntKind.i64.min = -9223372036854775808:=by decide
 have e2:IntKind.i64.max=9223372036854775807:=by decide
 rw[e1,e2]at h;exact h
theorem afE:prog.cellsOf 3=1:=by kernel_rfl
theorem abS{n:Nat}{c:List Av}{y:DataW H×List MemPlace}(h:DataW.trod enc prog W 0 (fun _=>true) true n 57 c=some y):
  ∃r:XF,c=[.int .i64 r.parent,.int .i64 r.tag,.int .i64 r.id,.int .i64 r.cls,.int .i64 r.attr]/\Ql r.parent/\Ql r.tag/\Ql r.id/\Ql r.cls/\Ql r.attr:=by
 obtain⟨xs,m,_,_,hl,hxl,hf⟩:=DataW.trod_struct Tryz.underlying57 h;rw[Ob]at hl;match c,hl with
 |[w0,w1,w2,w3,w4],_=>
  have h5:xs.length=5:=hxl;have key:∀(i:Nat) (v:Av),DataW.trod enc prog W 0 (fun _=>true) true m 3 [v]=xs[i]?->i<5->∃k,v=.int .i64 k/\Ql k:=by intro i v ht hi;rw[List.getElem?_eq_getElem oo]at ht;obtain⟨k,hk,_,hw⟩:=DataW.trod_int Tryz.underlying3 ht;cases hk;exact⟨k,rfl,akD hw⟩
  have f0:DataW.trod enc prog W 0 (fun _=>true) true m 3 (([w0,w1,w2,w3,w4].drop 0).take (prog.cellsOf 3))=xs[0]?:=hf 0 _ rfl;have f1:DataW.trod enc prog W 0 (fun _=>true) true m 3 (([w0,w1,w2,w3,w4].drop 1).take (prog.cellsOf 3))=xs[1]?:=hf 1 _ rfl;have f2:DataW.trod enc prog W 0 (fun _=>true) true m 3 (([w0,w1,w2,w3,w4].drop 2).take (prog.cellsOf 3))=xs[2]?:=hf 2 _ rfl;have f3:DataW.trod enc prog W 0 (fun _=>true) true m 3 (([w0,w1,w2,w3,w4].drop 3).take (prog.cellsOf 3))=xs[3]?:=hf 3 _ rfl;have f4:DataW.trod enc prog W 0 (fun _=>true) true m 3 (([w0,w1,w2,w3,w4].drop 4).take (prog.cellsOf 3))=xs[4]?:=hf 4 _ rfl;rw[afE]at f0 f1 f2 f3 f4;obtain⟨k0,rfl,i0⟩:=key 0 w0 f0 oo;obtain⟨k1,rfl,i1⟩:=key 1 w1 f1 oo;obtain⟨k2,rfl,i2⟩:=key 2 w2 f2 oo;obtain⟨k3,rfl,i3⟩:=key 3 w3 f3 oo;obtain⟨k4,rfl,i4⟩:=key 4 w4 f4 oo
  exact⟨⟨k0,k1,k2,k3,k4⟩,rfl,i0,i1,i2,i3,i4⟩
theorem afF{fuel:Nat}{cs:List Av}{x:DataW H×List MemPlace}(h:DataW.trod enc prog W 0 (fun _=>true) true fuel 49 cs=some x):
  ∃a n cap f,cs=[.slice a n cap]/\XG W.heap.size W a n f:=by
 rcases DataW.trod_slice Tryz.underlying49 h with⟨hcs,_⟩|⟨a,len,cap,elems,rest,n,_,hcs,hx,hb,hl,hm,hlen,hel,_,_⟩
 .exact⟨none,0,0,fun _=>⟨0,0,0,0,0⟩,hcs,oo,fun i hi=>by omega⟩
 .rw[Ob]at hel;have key:∀i,i<len->∃r:XF,(∀j u,[Value.int .i64 r.parent,.int .i64 r.tag,.int .i64 r.id,.int .i64 r.cls,.int .i64 r.attr][j]?=some u->W.cell? ((a.add (i*5)).add j)=some u)/\Ql r.parent/\Ql r.tag/\Ql r.id/\Ql r.cls/\Ql r.attr:=by
   intro i hi;have h1:=hel i hi;rw[List.getElem?_eq_getElem oo]at h1;obtain⟨c,hc,ht⟩:=Option.bind_eq_some_iff.1 h1;obtain⟨r,rfl,hin⟩:=abS ht;obtain⟨_,_,hcell⟩:=World.cells?_some hc;exact⟨r,fun j u hu=>by rw[hcell j (by have:=(List.getElem?_eq_some_iff.1 hu).1;simpa using this)];exact hu,hin⟩
  refine⟨some a,len,cap,fun i=>if h:i<len then(key i h).choose else⟨0,0,0,0,0⟩,hcs,by unfold maxLen at hm;omega,fun i hi _=>?_⟩;obtain⟨hc,hin⟩:=(key i hi).choose_spec;obtain⟨r0,hr0,_⟩:=key 0 oo;have h00:=hr0 0 _ rfl;rw[Nat.zero_mul]at h00;have ea:(a.add 0).add 0=a.add 0:=by unfold Addr.add;rw[if_pos rfl]
  rw[ea]at h00;obtain⟨g,o,rfl⟩:=KN h00;simp only[dif_pos hi];have e:∀j,((⟨g,o,none⟩:Addr).add (i*5)).add j=⟨g,o+i*5+j,none⟩:=fun j=>by rw[Addr.add_lit,Addr.add_lit]
  have c0:=hc 0 _ rfl;have c1:=hc 1 _ rfl;have c2:=hc 2 _ rfl;have c3:=hc 3 _ rfl;have c4:=hc 4 _ rfl;rw[e]at c0 c1 c2 c3 c4;exact⟨g,o,rfl,World.block_lt_of_cell? W _ c0,⟨c0,c1,c2,c3,c4⟩,hin⟩
end
end Go.Proofs.YtlliliddljkbfaaGreat
