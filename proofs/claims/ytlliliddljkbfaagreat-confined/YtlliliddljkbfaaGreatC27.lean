import Derived.Test.YtlliliddljkbfaaGreatC26
set_option maxHeartbeats 64000000
set_option maxRecDepth 100000
namespace Go.Proofs.YtlliliddljkbfaaGreat
open Go.Proofs.Tryz (prog)
open Go.RowKit Sp
def wR(p:aI)(s:Nat)(e:Nat):Bool:=match (Sp.ahead p e).getLast? with|none=>false|some k=>s.testBit k
def EP(s:Nat):List Nat->Nat
 |[]=>s
 |j::r=>EP (Gg s (2 ^ j)) r
theorem Zn(s:Nat)(hs:s<18446744073709551616):∀l,EP s l<18446744073709551616
 |[]=>hs
 |_::r=>Zn _ (GI _ _) r
theorem FQ(s:Nat):∀(l r:List Nat),EP s (l++r)=EP (EP s l) r
 |[],_=>rfl
 |j::l,r=>FQ (Gg s (2 ^ j)) l r
theorem Zo(n:Nat)(hn:n<=30):2 ^ n-1<18446744073709551616:=by have:=wB n hn;omega
def zI(p:aI):Nat->Nat
 |0=>2 ^ p.length-1
 |k+1=>EP (zI p k) (Sp.ahead p k)
theorem Zp(p:aI)(hn:p.length<=30):∀k,zI p k<18446744073709551616
 |0=>Zo _ hn
 |k+1=>Zn _ (Zp p hn k) _
def ER(p:aI):Nat->Nat
 |0=>2 ^ p.length-1
 |k+1=>Gg (ER p k) (2 ^ (parentOf p (k+1)).toNat)
theorem aht(p:aI)(hn:p.length<=30):∀k,ER p k<18446744073709551616
 |0=>Zo _ hn
 |_+1=>GI _ _
theorem GL(B:Nat)(p:aI)(e:Nat)(a:Option Addr)(cap:Nat)(w:WD)(h:jZ B w p a cap)(he:e<p.length):
  Calls prog 262 #[.agg #[.slice a p.length cap],.int .i64 (e:Int)] w fun en w'=>∃v',en=.returned v'/\SG sK 1 (oD w.heap.size w') w' v' (Sp.ahead p e)/\Below w.heap.size w w':=by
 have B0:Hid (Below w.heap.size w (w.alloc (.cells #[.slice a p.length cap] 66))):=Ax.alloc nl _;have V0:Hid (bU (w.alloc (.cells #[.slice a p.length cap] 66)) w.heap.size (.slice a p.length cap) 66):=bU.new _ _ _;have hlen:=h.len;have hBw:=h.lt;have wX:Hid (jZ B (w.alloc (.cells #[.slice a p.length cap] 66)) p a cap):=h.alloc _;obtain⟨pe,Hpe⟩:=Nm (parentOf p e);have HV:Hid (Sp.ahead p e=gJ p pe e):=by show _=_;unfold Sp.ahead;rw[Hpe.o]
 clear h;have h1:(e:Int)<(p.length:Int):=oo;obtain⟨iT,hiT⟩:=aeA;have HI:=hid hiT;clear hiT;go_in;go_wp2_with fail;have hsz0:=B0.o.size;have hlt0:=V0.o.lt;generalize w.alloc (.cells #[.slice a p.length cap] 66)=w0 at *;generalize hpb:w.heap.size=pb at *;go_loopg[5,8] e (fun gg v5 v6 wr=>∃(u:Av) (i:Nat),u=v5/\i+gg=e/\v6=.int .i64 (i:Int)/\Aside (MG sK 1 3 w0.heap.size wr u (gJ p pe i)/\Below w0.heap.size w0 wr));case atStart=>exact⟨_,0,rfl,oo,rfl,MG.nil _ _ _ _ _,Ax⟩
 case round=>
  obtain⟨u,i,rfl,hi,rfl,hA⟩:=hrel;have M1:=hid hA.o.1;have B1:=hid hA.o.2;clear hA;have hal:=AB p pe i;by_cases hlt:i<e
  .have h3:(i:Int)<(e:Int):=oo;have h4:(i:Int)<(p.length:Int):=oo;have HPr:=wX.o.below B1.o wX.o.lt;obtain⟨g,o,rfl,hgB,hcap,hcs⟩:=HPr.at;have d0:=hcs i oo;have d1:=hcs e he;rw[Hpe.o]at d1;have cv:=(V0.o.below B1.o hlt0).c;obtain⟨pi,Hpi⟩:=Nm (parentOf p i);rw[Hpi.o]at d0;clear hcs HPr;have hsz:=B1.o.size;by_cases heq:pi=pe
   .have hb:(pi==pe)=true:=by simpa using heq
    have HT:Hid (gJ p pe (i+1)=gJ p pe i++[i]):=by show _=_;rw[Fv,Hpi.o,if_pos heq]
    clear heq;go_wp2_with fail;go_quiet (fail)
    obtain⟨wd,hwd⟩:∃wd,wd=wr.drewN nq:=⟨_,rfl⟩;have M2:Hid (MG sK 1 3 w0.heap.size wd u (gJ p pe i)):=by rw[hwd];exact M1.o.keep sK.fair nl fun _ _ _=>rfl
    have B2:Hid (Below w0.heap.size w0 wd):=by rw[hwd];exact⟨B1.o.os,B1.o.tape,B1.o.output,B1.o.size,B1.o.block⟩
    rw[<-hwd];have hsz2:=B2.o.size;clear M1 B1 d0 d1 hwd cv;obtain⟨cs,hown,pX⟩:=(M2.o.alloc sK.fair (.cells #[.int .i64 (i:Int)] 3));have HO:=hid hown;have HC:=hid pX;clear hown pX;go_wp2_with(at_builtin;go_must(refine wpList_append_own_at _ rfl _ _ 31 rfl w0.heap.size 3 iT (.int .i64 0) 1 8 Tryz.underlying31 HI.o.1 HI.o.2.1 HI.o.2.2.1 HI.o.2.2.2 rfl oo u (gJ p pe i).length cs rfl HO.o ⟨wd.heap.size,0,none⟩ 1 1 [.int .i64 (i:Int)] rfl rfl (cell_one_new _ _ _) (by simp[Value.oneCell']) As oo An ?_));intro v4 w4 hown4 dS _ oh
    have M4:Hid (MG sK 1 3 w0.heap.size w4 v4 (gJ p pe i++[i])):=MG.ahs i HC.o hown4 dS (by simpa using oh);have B4:Hid (Below w0.heap.size w0 w4):=(B2.o.alloc oo _).grown dS An (fun rr hr=>(HO.o.lt rr hr).1);clear hown4 dS oh;go_wp2_with fail;go_roundg(gk-1);case measure=>omega
    case rel=>exact⟨v4,i+1,rfl,oo,by congr 1,by rw[HT.o];exact M4.o,B4.o⟩
   .have hb:(pi==pe)=false:=by simpa using heq
    have HT:Hid (gJ p pe (i+1)=gJ p pe i):=by show _=_;rw[Fv,Hpi.o,if_neg heq]
    clear heq;go_wp2_with fail;go_quiet (fail)
    go_wp2_with fail;go_roundg(gk-1);case measure=>omega
    case rel=>exact⟨u,i+1,rfl,oo,by congr 1,by rw[HT.o];exact M1.o.keep sK.fair nl fun _ _ _=>rfl,⟨B1.o.os,B1.o.tape,B1.o.output,B1.o.size,B1.o.block⟩⟩
  .have h3:(e:Int)<=(i:Int):=oo;have HT:Hid (Sp.ahead p e=gJ p pe i):=by show _=_;rw[HV.o,show i=e from by omega]
   go_wp2_with fail;go_ret;exact⟨_,rfl,by rw[HT.o];exact(M1.o.sl sK.fair sK.sized oo).keep sK.fair (fun g hg=>⟨by have:=hg.1;omega,hg.2⟩) (fun _ _=>rfl),by rw[hpb];exact B0.o.trans (B1.o.mono hsz0)⟩
theorem Ku{B:Nat}{w w':WD}(h:Below B w w')(k:Nat):Below B w (w'.drewN k):=⟨h.os,h.tape,h.output,h.size,h.block⟩
theorem Uo(B:Nat)(p:aI)(a:Option Addr)(cap s sb pb i:Nat)(w:WD)(h:jZ B w p a cap)(hi:i<p.length)(hs:s<18446744073709551616)
  (hsb:bU w sb (.int .u64 (s:Int)) 102) (hpb:bU w pb (.slice a p.length cap) 66):
  Calls prog 260 #[.int .i64 (i:Int),.pointer (some ⟨sb,0,none⟩),.pointer (some ⟨pb,0,none⟩)] w fun ex w'=>ex=.returned (.bool (hasB s (parentOf p i)))/\Below w.heap.size w w':=by
 obtain⟨g,o,rfl,hgB,hcap,hcs⟩:=h.at;have c0:=hcs i hi;have hq:=h.lo hi;have hlen:=h.len;have c1:=hsb.c;have c2:=hpb.c;have h1:(i:Int)<(p.length:Int):=oo;generalize parentOf p i=q at *;clear hcs h hsb hpb;go_in;go_wp2_with fail;go_quiet ((go_at_call 47;exact Calls.quiet_of_same (EN s q _ hs oo)))
 go_wp2_with fail;go_ret;exact⟨rfl,Ku Ax _⟩
theorem abu{p:aI}{s e:Nat}(h:Sp.ahead p e=[]):wR p s e=false:=by unfold wR;rw[h];rfl
theorem aeB{p:aI}{s e:Nat}(h:0<(Sp.ahead p e).length):wR p s e=hasB s (((Sp.ahead p e)[(Sp.ahead p e).length-1]'oo:Nat):Int):=by unfold wR;rw[List.getLast?_eq_getElem?,List.getElem?_eq_getElem oo,JO]
theorem ahu(B:Nat)(p:aI)(a:Option Addr)(cap s sb pb i:Nat)(w:WD)(h:jZ B w p a cap)(hi:i<p.length)(hs:s<18446744073709551616)
  (hsb:bU w sb (.int .u64 (s:Int)) 102) (hpb:bU w pb (.slice a p.length cap) 66):
  Calls prog 261 #[.int .i64 (i:Int),.pointer (some ⟨pb,0,none⟩),.pointer (some ⟨sb,0,none⟩)] w fun ex w'=>ex=.returned (.bool (wR p s i))/\Below w.heap.size w w':=by
 have hlen:=h.len;have c2:=hpb.c;have HH:=hid h;have HB1:=hid hsb;have hsl:=hsb.lt;have HA:Hid (∀x∈Sp.ahead p i,x<i):=fun x hx=>uh p (parentOf p i) i x hx;clear h hsb hpb;go_in;go_wp2_with fail;refine(GL B p i a cap w HH.o hi).mono ?_;rintro e w1 ⟨v',rfl,hsg,hb1⟩;obtain⟨va,vc,rfl⟩:=hsg.form;have B1:=hid hb1;have c1:=(HB1.o.below hb1 hsl).c;have hll:=hsg.len;by_cases hz:Sp.ahead p i=[]
 .have HV:Hid (wR p s i=false):=abu hz;have h0:((Sp.ahead p i).length:Int)=0:=by rw[hz];rfl
  have h0':¬(0:Int)<((Sp.ahead p i).length:Int):=oo;clear hsg hb1 hz;generalize(Sp.ahead p i).length=m at *;have hd:decide ((0:Int)<(m:Int))=false:=decide_eq_false h0';go_wp2_with fail;go_quiet (fail)
  go_wp2_with fail;go_ret;exact⟨aC HV.o.symm,Ku B1.o _⟩
 .obtain⟨g,o,rfl,hL,hcap⟩:=hsg.here hz;have hp:0<(Sp.ahead p i).length:=List.length_pos_iff.2 hz;have c3:=(hL.nat (i:=(Sp.ahead p i).length-1) oo).2;have HV:Hid (wR p s i=hasB s (((Sp.ahead p i)[(Sp.ahead p i).length-1]'oo:Nat):Int)):=aeB hp;have hk:=HA.o ((Sp.ahead p i)[(Sp.ahead p i).length-1]'oo) (List.getElem_mem _);generalize(Sp.ahead p i)[(Sp.ahead p i).length-1]'oo=k at *;have h0':(0:Int)<((Sp.ahead p i).length:Int):=oo;clear hsg hb1 hz hL HA;generalize(Sp.ahead p i).length=m at *;have hm1:((m:Int)-1)=((m-1:Nat):Int):=oo;have hw1:IntKind.i64.wrap ((m:Int)-1)=((m-1:Nat):Int):=by rw[IntKind.wrap_i64];omega
  have hm2:((m-1:Nat):Int)<(m:Int):=oo;go_wp2_with fail;go_quiet ((go_at_call 47;exact Calls.quiet_of_same (EN s (k:Int) _ hs oo)))
  go_wp2_with fail;go_ret;exact⟨aC HV.o.symm,Ku B1.o _⟩
theorem aeC{l:List Nat}{f:Nat->Bool}{j:Nat}(h:j<l.length):(l.drop j).any f=(f l[j]||(l.drop (j+1)).any f):=by rw[List.drop_eq_getElem_cons h];rfl
theorem abv(B:Nat)(p:aI)(a:Option Addr)(cap s sb pb i:Nat)(w:WD)(h:jZ B w p a cap)(hi:i<p.length)(hs:s<18446744073709551616)
  (hsb:bU w sb (.int .u64 (s:Int)) 102) (hpb:bU w pb (.slice a p.length cap) 66):
  Calls prog 263 #[.int .i64 (i:Int),.pointer (some ⟨pb,0,none⟩),.pointer (some ⟨sb,0,none⟩)] w fun ex w'=>ex=.returned (.bool ((Sp.ahead p i).any fun j=>s.testBit j))/\Below w.heap.size w w':=by
 have hlen:=h.len;have c2:=hpb.c;have HH:=hid h;have HB1:=hid hsb;have hsl:=hsb.lt;have HA:Hid (∀x∈Sp.ahead p i,x<i):=fun x hx=>uh p (parentOf p i) i x hx;clear h hsb hpb;go_in;go_wp2_with fail;refine(GL B p i a cap w HH.o hi).mono ?_;rintro e w1 ⟨v',rfl,hsg,hb1⟩;obtain⟨va,vc,rfl⟩:=hsg.form;have B1:=hid hb1;have HS:=hid hsg;have c1:=(HB1.o.below hb1 hsl).c;have hll:=hsg.len;clear hsg hb1 c2;obtain⟨l,Hl⟩:=Nm (Sp.ahead p i);rw[Hl.o]at HS HA hll;rw[Hl.o];go_wp2_with fail;go_loopg[11] l.length (fun gg v7 wr=>∃j:Nat,j+gg=l.length/\v7=.int .i64 (j:Int)/\wr=w1/\Aside (l.any (fun j=>s.testBit j)=(l.drop j).any (fun j=>s.testBit j)))
 case atStart=>exact⟨0,oo,rfl,rfl,rfl⟩
 case round=>
  obtain⟨go,hgo⟩:∃go,go=gk:=⟨_,rfl⟩;obtain⟨j,hj,rfl,rfl,hA⟩:=hrel;have HE:Hid (l.any (fun j=>s.testBit j)=(l.drop j).any (fun j=>s.testBit j)):=hA.o;clear hA;by_cases hlt:j<l.length
  .have h3:(j:Int)<(l.length:Int):=oo;obtain⟨g,o,rfl,hL,hcap⟩:=HS.o.here (by rintro rfl;simp at hlt);have c3:=(hL.nat (i:=j) hlt).2;have hk:=HA.o l[j] (List.getElem_mem _);have HE2:Hid (l.any (fun j=>s.testBit j)=(hasB s ((l[j]:Nat):Int)||(l.drop (j+1)).any (fun j=>s.testBit j))):=by
    show _=_;rw[HE.o,aeC hlt,JO]
   generalize l[j]=k at *;clear hL HE;go_wp2_with fail;refine(EN s (k:Int) _ hs oo).mono ?_;obtain⟨b,Hb⟩:=Nm (hasB s (k:Int));rw[Hb.o];rintro e wq ⟨rfl,hwq⟩;rw[hwq];clear hwq;rw[Hb.o]at HE2;cases b
   .go_wp2_with fail;go_roundg(go-1);case measure=>omega
    case rel=>exact⟨j+1,oo,by congr 1,rfl,HE2.o⟩
   .have HV:Hid (l.any (fun j=>s.testBit j)=true):=HE2.o;go_wp2_with fail;go_ret;exact⟨aC (by rw[Hl.o];exact HV.o.symm),B1.o⟩
  .have h3:(l.length:Int)<=(j:Int):=oo;have HV:Hid (l.any (fun j=>s.testBit j)=false):=by
    show _=_;rw[HE.o,List.drop_of_length_le oo];rfl
   go_wp2_with fail;go_ret;exact⟨aC (by rw[Hl.o];exact HV.o.symm),B1.o⟩
theorem XL(B:Nat)(p:aI)(a:Option Addr)(cap s:Nat)(w:WD)(h:jZ B w p a cap)(hs:s<18446744073709551616):
  Calls prog 200 #[.agg #[.slice a p.length cap],.int .u64 (s:Int)] w fun ex w'=>ex=.returned (.int .u64 (jq (fun i=>hasB s (parentOf p i)) p.length:Int))/\Below w.heap.size w w':=by
 have hmf:=nI;have hlen:=h.len;have hBw:=h.lt;obtain⟨V1,V2,hb⟩:=iR w (.slice a p.length cap) 66 (.int .u64 (s:Int)) 102;have P2:=hid (h.below hb hBw);have c1:=V1.c;have c2:=V2.c;have H1:=hid V1;have H2:=hid V2;have B2:=hid hb;clear V1 V2 hb h;go_in;go_wp2_with fail
 generalize(w.alloc (.cells #[.slice a p.length cap] 66)).alloc (.cells #[.int .u64 (s:Int)] 102)=w2 at *;refine(rZ p.length a cap _ _ (fun i=>hasB s (parentOf p i)) w2 hlen.2 (fun _ _=>rfl) ?_).mono ?_
 .intro i hi w' hb';exact Uo B p a cap s _ _ i w' (P2.o.below hb' P2.o.lt) hi hs (H2.o.below hb' H2.o.lt) (H1.o.below hb' H1.o.lt)
 .rintro e wq ⟨rfl,hwq⟩;have B3:=hid (AC B2.o hwq);clear hwq;go_wp2_with fail;go_ret;exact⟨rfl,B3.o⟩
theorem aj8(B:Nat)(p:aI)(a:Option Addr)(cap s:Nat)(w:WD)(h:jZ B w p a cap)(hs:s<18446744073709551616):
  Calls prog 201 #[.agg #[.slice a p.length cap],.int .u64 (s:Int)] w fun ex w'=>ex=.returned (.int .u64 (jq (fun i=>wR p s i) p.length:Int))/\Below w.heap.size w w':=by
 have hmf:=nI;have hlen:=h.len;have hBw:=h.lt;obtain⟨V1,V2,hb⟩:=iR w (.slice a p.length cap) 66 (.int .u64 (s:Int)) 102;have P2:=hid (h.below hb hBw);have c1:=V1.c;have c2:=V2.c;have H1:=hid V1;have H2:=hid V2;have B2:=hid hb;clear V1 V2 hb h;go_in;go_wp2_with fail
 generalize(w.alloc (.cells #[.slice a p.length cap] 66)).alloc (.cells #[.int .u64 (s:Int)] 102)=w2 at *;refine(rZ p.length a cap _ _ (fun i=>wR p s i) w2 hlen.2 (fun _ _=>rfl) ?_).mono ?_
 .intro i hi w' hb';exact ahu B p a cap s _ _ i w' (P2.o.below hb' P2.o.lt) hi hs (H2.o.below hb' H2.o.lt) (H1.o.below hb' H1.o.lt)
 .rintro e wq ⟨rfl,hwq⟩;have B3:=hid (AC B2.o hwq);clear hwq;go_wp2_with fail;go_ret;exact⟨rfl,B3.o⟩
theorem aeD(B:Nat)(p:aI)(a:Option Addr)(cap s:Nat)(w:WD)(h:jZ B w p a cap)(hs:s<18446744073709551616):
  Calls prog 202 #[.agg #[.slice a p.length cap],.int .u64 (s:Int)] w fun ex w'=>ex=.returned (.int .u64 (jq (fun i=>(Sp.ahead p i).any fun j=>s.testBit j) p.length:Int))/\Below w.heap.size w w':=by
 have hmf:=nI;have hlen:=h.len;have hBw:=h.lt;obtain⟨V1,V2,hb⟩:=iR w (.slice a p.length cap) 66 (.int .u64 (s:Int)) 102;have P2:=hid (h.below hb hBw);have c1:=V1.c;have c2:=V2.c;have H1:=hid V1;have H2:=hid V2;have B2:=hid hb;clear V1 V2 hb h;go_in;go_wp2_with fail
 generalize(w.alloc (.cells #[.slice a p.length cap] 66)).alloc (.cells #[.int .u64 (s:Int)] 102)=w2 at *;refine(rZ p.length a cap _ _ (fun i=>(Sp.ahead p i).any fun j=>s.testBit j) w2 hlen.2 (fun _ _=>rfl) ?_).mono ?_
 .intro i hi w' hb';exact abv B p a cap s _ _ i w' (P2.o.below hb' P2.o.lt) hi hs (H2.o.below hb' H2.o.lt) (H1.o.below hb' H1.o.lt)
 .rintro e wq ⟨rfl,hwq⟩;have B3:=hid (AC B2.o hwq);clear hwq;go_wp2_with fail;go_ret;exact⟨rfl,B3.o⟩
theorem Ur(x k:Nat)(hk:k<=30):bits .andNot .u64 (x:Int) (IntKind.u64.wrap (2 ^ k))=(Gg x (2 ^ k):Int):=by rw[Px k hk,TN]
theorem abw(s:Nat)(l:List Nat)(j:Nat)(h:j<l.length):EP s (l.take (j+1))=Gg (EP s (l.take j)) (2 ^ l[j]):=by rw[List.take_succ_eq_append_getElem h,FQ];rfl
theorem aj9(B:Nat)(p:aI)(a:Option Addr)(cap:Nat)(w:WD)(h:jZ B w p a cap):
  Calls prog 362 #[.agg #[.slice a p.length cap]] w fun ex w'=>ex=.returned (.int .u64 (zI p p.length:Int))/\Below w.heap.size w w':=by
 have B0:Hid (Below w.heap.size w (w.alloc (.cells #[.slice a p.length cap] 66))):=Ax.alloc nl _;have V0:Hid (bU (w.alloc (.cells #[.slice a p.length cap] 66)) w.heap.size (.slice a p.length cap) 66):=bU.new _ _ _;have hlen:=h.len;have wX:Hid (jZ B (w.alloc (.cells #[.slice a p.length cap] 66)) p a cap):=h.alloc _;have c00:=V0.o.c;clear h;go_in;go_wp2_with fail;have hsz0:=B0.o.size;have hlt0:=V0.o.lt;generalize w.alloc (.cells #[.slice a p.length cap] 66)=w0 at *;generalize hpb:w.heap.size=pb at *;refine pmb (TP p.length a cap _ hlen.2) fun w1 hw1=>?_;have B1:=hid hw1;have c0:=(V0.o.below hw1 hlt0).c;clear hw1;go_wp2_with fail;go_loopg[3,12] p.length (fun g v5 v wr=>∃k:Nat,k+g=p.length/\v=.int .i64 (k:Int)/\v5=.int .u64 (zI p k:Int)/\Aside (Below w0.heap.size w0 wr))
 case atStart=>exact⟨0,oo,rfl,rfl,B1.o⟩
 case round=>
  obtain⟨go,hgo⟩:∃go,go=gk:=⟨_,rfl⟩;obtain⟨k,hk,rfl,rfl,hA⟩:=hrel;have BR:Hid (Below w0.heap.size w0 wr):=hA.o;have cr:=(V0.o.below BR.o hlt0).c;have akb:=BR.o.size;clear hA c0;by_cases hlt:k<p.length
  .have h1:(k:Int)<(p.length:Int):=oo;go_wp2_with fail;refine(GL B p k a cap wr (wX.o.below BR.o wX.o.lt) hlt).mono ?_;rintro e w2 ⟨v',rfl,hsg,hb2⟩;obtain⟨va,vc,rfl⟩:=hsg.form;have B2:=hid (BR.o.trans (hb2.mono akb));have HS:=hid hsg;have HL:Hid (zI p (k+1)=EP (zI p k) (Sp.ahead p k)):=rfl;have HA:Hid (∀x∈Sp.ahead p k,x<k):=fun x hx=>uh p (parentOf p k) k x hx;have hll:=hsg.len;clear hsg hb2 cr;generalize Sp.ahead p k=l at *;go_wp2_with fail;go_loopg[3,19] l.length (fun g v5 v wq=>∃j:Nat,j+g=l.length/\v=.int .i64 (j:Int)/\v5=.int .u64 (EP (zI p k) (l.take j):Int)/\wq=w2);case atStart=>exact⟨0,oo,rfl,rfl,rfl⟩
   case round=>
    obtain⟨gi,hgi⟩:∃gi,gi=gk:=⟨_,rfl⟩;obtain⟨j,hj,rfl,rfl,rfl⟩:=hrel;by_cases hlj:j<l.length
    .have h3:(j:Int)<(l.length:Int):=oo;obtain⟨g,o,rfl,hL,hcap⟩:=HS.o.here (by rintro rfl;simp at hlj);have c3:=(hL.nat (i:=j) hlj).2;have hk2:=HA.o l[j] (List.getElem_mem _);have HT:=abw (zI p k) l j hlj;generalize l[j]=m at *;have HO:Hid (bits .andNot .u64 (EP (zI p k) (l.take j):Int) (IntKind.u64.wrap (2 ^ m))=(EP (zI p k) (l.take (j+1)):Int)):=by show _=_;rw[HT,Ur _ _ oo]
     have h30:(m:Int)<30:=oo;clear HT hL;go_wp2_with fail;go_roundg(gi-1);case measure=>omega
     case rel=>exact⟨j+1,oo,by congr 1,by rw[HO.o],rfl⟩
    .have h3:(l.length:Int)<=(j:Int):=oo;have HV:Hid (EP (zI p k) (l.take j)=zI p (k+1)):=by show _=_;rw[HL.o,List.take_of_length_le oo]
     go_wp2_with fail;go_roundg(go-1);case measure=>omega
     case rel=>exact⟨k+1,oo,by congr 1,by rw[HV.o],B2.o⟩
  .have h1:(p.length:Int)<=(k:Int):=oo;have HV:Hid (zI p k=zI p p.length):=by show _=_;rw[show k=p.length by omega]
   go_wp2_with fail;go_ret;rw[HV.o];exact⟨rfl,by rw[hpb];exact B0.o.trans (BR.o.mono hsz0)⟩
theorem aeE:∃i,prog.info? 35=some i/\i.zero=some (.agg #[.int .i64 0,.string ⟨#[]⟩,.string ⟨#[]⟩,.slice none 0 0,.slice none 0 0])/\i.size=5/\i.bytes=88:=info_parts Ao
theorem abx(g o n cap:Nat)(h1:1<=n)(h2:n<=cap)(h3:n<=30):∃a',(∀W:WD,(Instr.slice 22 (.slice (some ⟨g,o,none⟩) n cap) (some (.int .i64 1)) none none).run prog W=.ok (.slice a' (n-1) (cap-1)) W)/\(1<n->a'=some ⟨g,o+5,none⟩):=by
 obtain⟨iT,i1,_,i3,_⟩:=aeE;refine⟨if cap=1 then some ⟨g,o,none⟩ else some ⟨g,o+5,none⟩,fun W=>?_,fun h=>?_⟩
 .rw[run_slice_l (P:=prog) W 22 _ n cap Tryz.underlying22 .i64 1 oo oo];have e:prog.elem 22=35:=by kernel_rfl
  simp[sizeOf,typeInfo,e,i1,i3,sliced,Result.andThen,Addr.add]
 .rw[if_neg oo]
theorem aeF(p:aI)(k:Nat){q:Int}(hq:parentOf p (k+1)=q)(h:0<=q)(h2:q<30):bits .andNot .u64 (ER p k:Int) (IntKind.u64.wrap (2 ^ q.toNat))=(ER p (k+1):Int):=by
 rw[Ur _ _ oo];conv=>rhs;unfold ER
 rw[hq]
theorem ahv(B:Nat)(p:aI)(a:Option Addr)(cap:Nat)(w:WD)(h:jZ B w p a cap):
  Calls prog 363 #[.agg #[.slice a p.length cap]] w fun ex w'=>ex=.returned (.int .u64 (ER p (p.length-1):Int))/\Below w.heap.size w w':=by
 have B0:Hid (Below w.heap.size w (w.alloc (.cells #[.slice a p.length cap] 66))):=Ax.alloc nl _;have V0:Hid (bU (w.alloc (.cells #[.slice a p.length cap] 66)) w.heap.size (.slice a p.length cap) 66):=bU.new _ _ _;have hlen:=h.len;have wX:Hid (jZ B (w.alloc (.cells #[.slice a p.length cap] 66)) p a cap):=h.alloc _;have c00:=V0.o.c;clear h;go_in;go_wp2_with fail;have hsz0:=B0.o.size;have hlt0:=V0.o.lt;generalize w.alloc (.cells #[.slice a p.length cap] 66)=w0 at *;generalize hpb:w.heap.size=pb at *;refine pmb (TP p.length a cap _ hlen.2) fun w1 hw1=>?_;have B1:=hid hw1;have c0:=(V0.o.below hw1 hlt0).c;obtain⟨g,o,rfl,hgB,hcap,hcs⟩:=wX.o.at;obtain⟨a',hcut,ha'⟩:=abx g o p.length cap hlen.1 hcap hlen.2;clear hw1 hcs;have hn1:((p.length-1:Nat):Int)=(p.length:Int)-1:=oo;go_wp2_with fail
 go_loopg[3,12] (p.length-1) (fun g v5 v wr=>∃k:Nat,k+g=p.length-1/\v=.int .i64 (k:Int)/\v5=.int .u64 (ER p k:Int)/\Aside (Below w0.heap.size w0 wr));case atStart=>exact⟨0,oo,rfl,rfl,B1.o⟩
 case round=>
  obtain⟨go,hgo⟩:∃go,go=gk:=⟨_,rfl⟩;obtain⟨k,hk,rfl,rfl,hA⟩:=hrel;have BR:Hid (Below w0.heap.size w0 wr):=hA.o;have akb:=BR.o.size;clear hA c0;by_cases hlt:k<p.length-1
  .have h1:(k:Int)<((p.length-1:Nat):Int):=oo;have hP:=wX.o.below BR.o wX.o.lt;obtain⟨g',o',he,hL,_⟩:=hP.sg.here (by rintro rfl;simp at hlt);cases he;obtain rfl:=ha' oo;obtain⟨cv,av,hX⟩:=hL.el (i:=k+1) oo;have Hq:Hid (parentOf p (k+1)=(p[k+1]'oo).parent):=ng oo;have hq:=hP.lo (i:=k+1) oo;have hroot:=hP.par.root (k+1) oo;rw[Hq.o]at hq hroot;generalize(p[k+1]'oo)=x at *;have hq0:0<=x.parent:=by
    rcases Int.lt_or_le x.parent 0 with hh|hh
    .have:=hroot hh;omega
    .exact hh
   have am2:x.parent<30:=oo;obtain⟨ca,cc,rfl⟩:=hX.cl.form;obtain⟨aa,ac,rfl⟩:=hX.at_.form;have eo:o+5+k*5=o+(k+1)*5:=oo;have d0:wr.cell? ⟨g,o+5+k*5,none⟩=some (.int .i64 x.parent):=by rw[eo];exact hX.c0
   have d1:wr.cell? ⟨g,o+5+k*5+1,none⟩=some (.string x.tag):=by rw[eo];exact hX.c1
   have d2:wr.cell? ⟨g,o+5+k*5+2,none⟩=some (.string x.id):=by rw[eo];exact hX.c2
   have d3:wr.cell? ⟨g,o+5+k*5+3,none⟩=some (.slice ca x.classes.length cc):=by rw[eo];exact hX.c3
   have d4:wr.cell? ⟨g,o+5+k*5+4,none⟩=some (.slice aa x.attrs.length ac):=by rw[eo];exact hX.c4
   have HV:Hid (bits .andNot .u64 (ER p k:Int) (IntKind.u64.wrap (2 ^ x.parent.toNat))=(ER p (k+1):Int)):=aeF p k Hq.o hq0 am2;have X2:Hid (XE (wr.alloc (.cells #[.int .i64 x.parent,.string x.tag,.string x.id,.slice ca x.classes.length cc,.slice aa x.attrs.length ac] 35)) wr.heap.size x (.slice ca x.classes.length cc) (.slice aa x.attrs.length ac)):=heap_alloc_new wr _;have B2:Hid (Below w0.heap.size w0 (wr.alloc (.cells #[.int .i64 x.parent,.string x.tag,.string x.id,.slice ca x.classes.length cc,.slice aa x.attrs.length ac] 35))):=BR.o.alloc akb _;clear hX hL hP hroot hq eo;go_upto_region 5 with fail
   generalize wr.alloc (.cells #[.int .i64 x.parent,.string x.tag,.string x.id,.slice ca x.classes.length cc,.slice aa x.attrs.length ac] 35)=w2 at *;generalize wr.heap.size=xb at *;clear d0 d1 d2 d3 d4;obtain⟨d0,d1,d2,d3,d4⟩:=X2.o.cs;go_wp2_with fail;go_roundg(go-1);case measure=>omega
   case rel=>exact⟨k+1,oo,by congr 1,by rw[HV.o],B2.o⟩
  .have h1:((p.length-1:Nat):Int)<=(k:Int):=oo;have HV:Hid (ER p k=ER p (p.length-1)):=by show _=_;rw[show k=p.length-1 by omega]
   go_wp2_with fail;go_ret;rw[HV.o];exact⟨rfl,by rw[hpb];exact B0.o.trans (BR.o.mono hsz0)⟩
theorem wS{w w':WD}{a:Addr}{v:Av}(h:w.cell? a=some v)(hb:Below w.heap.size w w'):w'.cell? a=some v:=(World.cell?_of_block (hb.block _ (World.block_lt_of_cell? w a h))).trans h
theorem alT(B:Nat)(p:aI)(a:Option Addr)(cap fb pb i:Nat)(g:Nat)(cs:Array Av)(t:Nat->Bool)(w:WD)(h:jZ B w p a cap)(hi:i<p.length)
  (hfb:bU w fb (.func (.func g) #[] cs) 69) (hpb:bU w pb (.slice a p.length cap) 66)
  (hg:∀(args:Array Av) (w:WD),(callFunc g args).run prog w=.ok (.enter g args) w)
  (hf:∀k,1<=k->k<=31->∀w',Below w.heap.size w w'->Calls prog g (#[.int .i64 (k:Int)]++cs) w' fun ex w''=>ex=.returned (.bool (t k))/\Below w'.heap.size w' w''):
  Calls prog 364 #[.int .i64 (i:Int),.pointer (some ⟨fb,0,none⟩),.pointer (some ⟨pb,0,none⟩)] w fun ex w'=>ex=.returned (.bool (t (qo p i)))/\Below w.heap.size w w':=by
 have hlen:=h.len;have d1:=hfb.c;have d2:=hpb.c;have HH:=hid h;have HF:=hid hf;have hal:(Sp.ahead p i).length<=i:=AB p (parentOf p i) i;have HP:Hid (qo p i=(Sp.ahead p i).length+1):=rfl;clear h hf hfb hpb;go_in;go_wp2_with fail;refine wp_region_any Ao ?_;change wpAny _ _ _ _ _ _ _ (World.drew _);obtain⟨wz,hwz⟩:∃x,World.drew w=x:=⟨_,rfl⟩;have hz:Below w.heap.size w wz:=by rw[<-hwz];exact Ax.drew
 rw[hwz];have BZ:=hid hz;have SZ:Hid (wz.cell? ⟨fb,0,none⟩=some (.func (.func g) #[] cs)/\wz.cell? ⟨pb,0,none⟩=some (.slice a p.length cap)):=⟨wS d1 hz,wS d2 hz⟩;have hsz:=hz.size;clear hz hwz d1 d2;refine wpAny_of_held (S:=fun wx=>wx.cell? ⟨fb,0,none⟩=some (.func (.func g) #[] cs)/\wx.cell? ⟨pb,0,none⟩=some (.slice a p.length cap)) _ _ _ _ ?_;refine dH 0 rfl SZ.o (by intro w hSw;obtain⟨z1,z2⟩:=hSw;exact gs) ?_;refine dH 1 rfl SZ.o (by intro w hSw;obtain⟨z1,z2⟩:=hSw;exact gs) ?_;refine dH 2 rfl SZ.o (by intro w hSw;obtain⟨z1,z2⟩:=hSw;exact gs) ?_;refine iW 3 fun K hK=>?_;go_simp;refine(GL B p i a cap wz (HH.o.below BZ.o HH.o.lt) hi).mono ?_;rintro e w1 ⟨v',rfl,hsg,hb1⟩;obtain⟨va,vc,rfl⟩:=hsg.form
 have B1:=hid (BZ.o.trans (hb1.mono hsz));have S1:Hid (w1.cell? ⟨fb,0,none⟩=some (.func (.func g) #[] cs)/\w1.cell? ⟨pb,0,none⟩=some (.slice a p.length cap)):=⟨wS SZ.o.1 hb1,wS SZ.o.2 hb1⟩;have hs1:=B1.o.size;clear hsg hb1;refine hK.o _ _ S1.o (fun _=>?_);clear hK K;obtain⟨m,Hm⟩:=Nm ((Sp.ahead p i).length);rw[Hm.o]at hal HP;rw[Hm.o];have hw1:IntKind.i64.wrap ((m:Int)+1)=(m:Int)+1:=by rw[IntKind.wrap_i64];omega
 have hc:=HF.o (m+1) oo oo w1 B1.o;rw[show(((m+1:Nat)):Int)=(m:Int)+1 by omega]at hc;have HC:=hid hc;clear hc;refine dH 4 rfl S1.o (fun _ _=>gs) ?_;refine dH 5 rfl S1.o (fun _ _=>gs) ?_;refine iW 6 fun K hK=>?_;go_simp;refine HC.o.mono ?_;rintro e wq ⟨rfl,hwq⟩;have BQ:=hid (B1.o.trans (hwq.mono hs1));have SQ:Hid (wq.cell? ⟨fb,0,none⟩=some (.func (.func g) #[] cs)/\wq.cell? ⟨pb,0,none⟩=some (.slice a p.length cap)):=⟨wS S1.o.1 hwq,wS S1.o.2 hwq⟩;clear hwq;refine hK.o _ _ SQ.o (fun _=>?_);clear hK K;refine iW 7 fun K hK=>?_;go_simp;refine hK.o _ _ (SQ.o) (fun _=>?_);clear hK K;refine wpAnyH_done Ao ?_ _
 go_wp2_with fail;go_ret;rw[HP.o];exact⟨rfl,BQ.o⟩
theorem alU(B:Nat)(p:aI)(a:Option Addr)(cap:Nat)(g:Nat)(cs:Array Av)(t:Nat->Bool)(w:WD)(h:jZ B w p a cap)
  (hg:∀(args:Array Av) (w:WD),(callFunc g args).run prog w=.ok (.enter g args) w)
  (hf:∀k,1<=k->k<=31->∀w',Below w.heap.size w w'->Calls prog g (#[.int .i64 (k:Int)]++cs) w' fun ex w''=>ex=.returned (.bool (t k))/\Below w'.heap.size w' w''):
  Calls prog 360 #[.agg #[.slice a p.length cap],.func (.func g) #[] cs] w fun ex w'=>ex=.returned (.int .u64 (jq (fun i=>t (qo p i)) p.length:Int))/\Below w.heap.size w w':=by
 have hmf:=nI;have hlen:=h.len;have hBw:=h.lt;obtain⟨V1,V2,hb⟩:=iR w (.slice a p.length cap) 66 (.func (.func g) #[] cs) 69;have P2:=hid (h.below hb hBw);have c1:=V1.c;have c2:=V2.c;have H1:=hid V1;have H2:=hid V2;have B2:=hid hb
 have HF:=hid hf;have HG:=hid hg;clear V1 V2 hb h hf hg;go_in;go_wp2_with fail;generalize(w.alloc (.cells #[.slice a p.length cap] 66)).alloc (.cells #[.func (.func g) #[] cs] 69)=w2 at *;refine(rZ p.length a cap _ _ (fun i=>t (qo p i)) w2 hlen.2 (fun _ _=>rfl) ?_).mono ?_
 .intro i hi w' hb';refine alT B p a cap _ _ i g cs t w' (P2.o.below hb' P2.o.lt) hi (H2.o.below hb' H2.o.lt) (H1.o.below hb' H1.o.lt) HG.o ?_;intro k hk1 hk2 w'' aea;exact HF.o k hk1 hk2 w'' ((AC B2.o hb').trans (aea.mono (Nat.le_trans B2.o.size hb'.size)))
 .rintro e wq ⟨rfl,hwq⟩;have B3:=hid (AC B2.o hwq);clear hwq;go_wp2_with fail;go_ret;exact⟨rfl,B3.o⟩
def stS(p:aI)(nm:BY):Nat:=if nm=BL then 1 else if nm=uY then jq (fun i=>qo p i==1) p.length else if nm=BM then zI p p.length else ER p (p.length-1)
theorem aeG(k:Nat)(w:WD):
  Calls prog 361 #[.int .i64 (k:Int)] w fun ex w'=>ex=.returned (.bool (k==1))/\Below w.heap.size w w':=by
 have HV:Hid (((k:Int)==1)=(k==1)):=by show _=_;rw[Bool.eq_iff_iff];simp;omega
 go_in;go_wp2_with fail;go_ret;exact⟨aC HV.o,Ax⟩
theorem aeH(B:Nat)(p:aI)(a:Option Addr)(cap:Nat)(nm:BY)(w:WD)(h:jZ B w p a cap):
  Calls prog 356 #[.agg #[.string nm],.agg #[.slice a p.length cap]] w fun ex w'=>ex=.returned (.int .u64 (stS p nm:Int))/\Below w.heap.size w w':=by
 have hBw:=h.lt;obtain⟨V1,V2,hb⟩:=iR w (.string nm) 343 (.slice a p.length cap) 66;have P2:=hid (h.below hb hBw);have c1:=V1.c;have c2:=V2.c;have B2:=hid hb;clear V1 V2 hb h;have h1:(nm.toList==[114,111,111,116])=decide (nm=BL):=ay _ _;have h2:(nm.toList==[102,105,114,115,116,45,99,104,105,108,100])=decide (nm=uY):=ay _ _;have h3:(nm.toList==[108,97,115,116,45,99,104,105,108,100])=decide (nm=BM):=ay _ _;by_cases e1:nm=BL
 .have HS:Hid (stS p nm=1):=by show _=_;unfold stS;rw[if_pos e1]
  rw[decide_eq_true e1]at h1;clear e1 h2 h3;go_in;go_wp2_with fail;generalize(w.alloc (.cells #[.string nm] 343)).alloc (.cells #[.slice a p.length cap] 66)=w2 at *;refine pmb (ajN (.slice a p.length cap) w2) fun wq hwq=>?_;have B3:=hid (AC B2.o hwq);clear hwq;go_wp2_with fail;go_ret;rw[HS.o];exact⟨rfl,B3.o⟩
 rw[decide_eq_false e1]at h1;by_cases e2:nm=uY
 .have HS:Hid (stS p nm=jq (fun i=>qo p i==1) p.length):=by show _=_;unfold stS;rw[if_neg e1,if_pos e2]
  rw[decide_eq_true e2]at h2;clear e1 e2 h3;go_in;go_wp2_with fail;generalize(w.alloc (.cells #[.string nm] 343)).alloc (.cells #[.slice a p.length cap] 66)=w2 at *;refine pmb (alU B p a cap 361 #[] (fun k=>k==1) w2 P2.o (fun _ _=>rfl) (fun k _ _ w' _=>aeG k w')) fun wq hwq=>?_;have B3:=hid (AC B2.o hwq);clear hwq;go_wp2_with fail;go_ret;rw[HS.o];exact⟨rfl,B3.o⟩
 rw[decide_eq_false e2]at h2;by_cases e3:nm=BM
 .have HS:Hid (stS p nm=zI p p.length):=by show _=_;unfold stS;rw[if_neg e1,if_neg e2,if_pos e3]
  rw[decide_eq_true e3]at h3;clear e1 e2 e3;go_in;go_wp2_with fail;generalize(w.alloc (.cells #[.string nm] 343)).alloc (.cells #[.slice a p.length cap] 66)=w2 at *;refine pmb (aj9 B p a cap w2 P2.o) fun wq hwq=>?_;have B3:=hid (AC B2.o hwq);clear hwq;go_wp2_with fail;go_ret;rw[HS.o];exact⟨rfl,B3.o⟩
 rw[decide_eq_false e3]at h3
 .have HS:Hid (stS p nm=ER p (p.length-1)):=by show _=_;unfold stS;rw[if_neg e1,if_neg e2,if_neg e3]
  clear e1 e2 e3;go_in;go_wp2_with fail;generalize(w.alloc (.cells #[.string nm] 343)).alloc (.cells #[.slice a p.length cap] 66)=w2 at *;refine pmb (ahv B p a cap w2 P2.o) fun wq hwq=>?_;have B3:=hid (AC B2.o hwq);clear hwq;go_wp2_with fail;go_ret;rw[HS.o];exact⟨rfl,B3.o⟩
def Mc(k:Nat):BY:=if k=0 then sZ else if k=1 then l7 else aA
def plI(k:Nat):Nat:=if k=0 then 0 else if k=1 then 0 else k-2
def plT(k i:Nat):Bool:=if 2<=k then i==k-2 else i%2==1-k
def PlB(w:WD)(b:Nat)(nm:BY)(n:Int):Prop:=w.heap[b]?=some (.cells #[.string nm,.int .i64 n] 351 (0,0))
theorem PlB.cs{w:WD}{b:Nat}{nm:BY}{n:Int}(h:PlB w b nm n):w.cell? ⟨b,0,none⟩=some (.string nm)/\w.cell? ⟨b,1,none⟩=some (.int .i64 n):=by unfold World.cell?;rw[show w.heap[b]?=_ from h];exact⟨rfl,rfl⟩
theorem PlB.lt{w:WD}{b:Nat}{nm:BY}{n:Int}(h:PlB w b nm n):b<w.heap.size:=(Ay h)
theorem PlB.below{w w':WD}{b:Nat}{nm:BY}{n:Int}{g:Nat}(h:PlB w b nm n)(hb:Below g w w')(hg:b<g):PlB w' b nm n:=(hb.block b hg).trans h
theorem alW(k:Nat)(c:Nat):((k:Int).tmod 2==(c:Int))=(k%2==c):=by have e:(k:Int).tmod 2=((k%2:Nat):Int):=rfl;rw[e,Bool.eq_iff_iff];simp only[beq_iff_eq];omega
theorem aeI(k j b:Nat)(w:WD)(hb:PlB w b (Mc k) (plI k:Int)):
  Calls prog 375 #[.int .i64 (j:Int),.pointer (some ⟨b,0,none⟩)] w fun ex w'=>ex=.returned (.bool (plT k j))/\Below w.heap.size w w':=by
 have hcs:=hb.cs;clear hb;by_cases e0:k=0
 .have HV:Hid (((j:Int).tmod 2==1)=plT k j):=by show _=_;unfold plT;rw[if_neg oo,e0];exact alW j 1
  rw[show Mc k=sZ by unfold Mc;rw[if_pos e0],show plI k=0 by unfold plI;rw[if_pos e0]]at hcs;obtain⟨c0,c1⟩:=hcs;unfold sZ at c0;clear e0;go_in;go_wp2_with fail;go_ret;exact⟨aC HV.o,Ax⟩
 .by_cases e1:k=1
  .have HV:Hid (((j:Int).tmod 2==0)=plT k j):=by show _=_;unfold plT;rw[if_neg oo,e1];exact alW j 0
   rw[show Mc k=l7 by unfold Mc;rw[if_neg e0,if_pos e1],show plI k=0 by unfold plI;rw[if_neg e0,if_pos e1]]at hcs;obtain⟨c0,c1⟩:=hcs;unfold l7 at c0;clear e0 e1;go_in;go_wp2_with fail;go_ret;exact⟨aC HV.o,Ax⟩
  .have HV:Hid (((j:Int)==((plI k:Nat):Int))=plT k j):=by
    show _=_;unfold plT plI;rw[if_pos (show 2<=k by omega),if_neg e0,if_neg e1,Bool.eq_iff_iff];simp only[beq_iff_eq];omega
   rw[show Mc k=aA by unfold Mc;rw[if_neg e0,if_neg e1]]at hcs;generalize plI k=n at *;obtain⟨c0,c1⟩:=hcs;unfold aA at c0;clear e0 e1;go_in;go_wp2_with fail;go_ret;exact⟨aC HV.o,Ax⟩
theorem ahw(w:WD)(nm:BY)(n:Int)(o:Obj):PlB ((w.alloc (.cells #[.string nm,.int .i64 n] 351)).alloc o) w.heap.size nm n:=by have q:PlB (w.alloc (.cells #[.string nm,.int .i64 n] 351)) w.heap.size nm n:=heap_alloc_new w _;exact q.below (Ax.alloc nl _) q.lt
theorem Zq(w:WD)(o:Obj)(v:Av)(T:TypeId):bU ((w.alloc o).alloc (.cells #[v] T)) (w.heap.size+1) v T:=by have q:=bU.new (w.alloc o) v T;rwa[World.size_alloc]at q
theorem NP(w:WD)(o o':Obj):Below w.heap.size w ((w.alloc o).alloc o'):=(Ax.alloc nl _).alloc Ab _
theorem XM(B:Nat)(p:aI)(a:Option Addr)(cap:Nat)(nm:BY)(n:Int)(t:Nat->Bool)(w:WD)(h:jZ B w p a cap)
  (hf:∀(j b:Nat) (w':WD),PlB w' b nm n->Calls prog 375 #[.int .i64 (j:Int),.pointer (some ⟨b,0,none⟩)] w' fun ex w''=>ex=.returned (.bool (t j))/\Below w'.heap.size w' w''):
  Calls prog 372 #[.agg #[.string nm,.int .i64 n],.agg #[.slice a p.length cap]] w fun ex w'=>ex=.returned (.int .u64 (jq (fun i=>t (qo p i)) p.length:Int))/\Below w.heap.size w w':=by
 have hmf:=nI;have hBw:=h.lt;have B2:Hid (Below w.heap.size w ((w.alloc (.cells #[.string nm,.int .i64 n] 351)).alloc (.cells #[.slice a p.length cap] 66))):=NP _ _ _;have H1:Hid (PlB ((w.alloc (.cells #[.string nm,.int .i64 n] 351)).alloc (.cells #[.slice a p.length cap] 66)) w.heap.size nm n):=ahw _ _ _ _;have V2:bU ((w.alloc (.cells #[.string nm,.int .i64 n] 351)).alloc (.cells #[.slice a p.length cap] 66)) (w.heap.size+1) (.slice a p.length cap) 66:=Zq _ _ _ _;have P2:=hid (h.below B2.o hBw);obtain⟨c0,c1⟩:=H1.o.cs;have c2:=V2.c;have HF:=hid hf;clear V2 h hf
 go_in;go_wp2_with fail;generalize((w.alloc (.cells #[.string nm,.int .i64 n] 351)).alloc (.cells #[.slice a p.length cap] 66))=w2 at *;refine(alU B p a cap _ _ t w2 P2.o (fun _ _=>rfl) ?_).mono ?_
 .intro j _ _ w' hb';exact HF.o j _ w' (H1.o.below hb' H1.o.lt)
 .rintro e wq ⟨rfl,hwq⟩;have B3:=hid (AC B2.o hwq);clear hwq;go_wp2_with fail;go_ret;exact⟨rfl,B3.o⟩
theorem aeJ(B:Nat)(p:aI)(a:Option Addr)(cap:Nat)(k:Nat)(w:WD)(h:jZ B w p a cap):
  Calls prog 372 #[.agg #[.string (Mc k),.int .i64 (plI k:Int)],.agg #[.slice a p.length cap]] w fun ex w'=>ex=.returned (.int .u64 (jq (fun i=>plT k (qo p i)) p.length:Int))/\Below w.heap.size w w':=
 XM B p a cap _ _ (plT k) w h (fun j b w' hb=>aeI k j b w' hb)
theorem alX(B:Nat)(p:aI)(a:Option Addr)(cap:Nat)(la:Option Addr)(ln lc s:Nat)(w:WD)(h:jZ B w p a cap)
  (hf:∀w',Below w.heap.size w w'->Calls prog 46 #[.slice la ln lc,.agg #[.slice a p.length cap]] w' fun ex w''=>ex=.returned (.int .u64 (s:Int))/\Below w'.heap.size w' w''):
  Calls prog 369 #[.agg #[.slice la ln lc],.agg #[.slice a p.length cap]] w fun ex w'=>ex=.returned (.int .u64 (s:Int))/\Below w.heap.size w w':=by
 have hBw:=h.lt;obtain⟨V1,V2,hb⟩:=iR w (.slice la ln lc) 346 (.slice a p.length cap) 66;have c1:=V1.c;have c2:=V2.c;have B2:=hid hb;have HF:=hid hf;clear V1 V2 hb h hf;go_in;go_wp2_with fail;generalize((w.alloc (.cells #[.slice la ln lc] 346)).alloc (.cells #[.slice a p.length cap] 66))=w2 at *;refine pmb (HF.o w2 B2.o) fun wq hwq=>?_;have B3:=hid (AC B2.o hwq);clear hwq;go_wp2_with fail;go_ret;exact⟨rfl,B3.o⟩
theorem akc(B:Nat)(p:aI)(a:Option Addr)(cap:Nat)(la:Option Addr)(ln lc s:Nat)(w:WD)(h:jZ B w p a cap)
  (hf:∀w',Below w.heap.size w w'->Calls prog 46 #[.slice la ln lc,.agg #[.slice a p.length cap]] w' fun ex w''=>ex=.returned (.int .u64 (s:Int))/\Below w'.heap.size w' w''):
  Calls prog 365 #[.agg #[.slice la ln lc],.agg #[.slice a p.length cap]] w fun ex w'=>ex=.returned (.int .u64 (Gg (2 ^ p.length-1) s:Int))/\Below w.heap.size w w':=by
 have hlen:=h.len;have hBw:=h.lt;obtain⟨V1,V2,hb⟩:=iR w (.slice la ln lc) 345 (.slice a p.length cap) 66;have d1:=V1.c;have d2:=V2.c;have B2:=hid hb;have HF:=hid hf;clear V1 V2 hb h hf;go_in;go_wp2_with fail;refine wp_region_any Ao ?_;change wpAny _ _ _ _ _ _ _ (World.drew _);obtain⟨wz,hwz⟩:∃x,World.drew ((w.alloc (.cells #[.slice la ln lc] 345)).alloc (.cells #[.slice a p.length cap] 66))=x:=⟨_,rfl⟩
 have hz:Below ((w.alloc (.cells #[.slice la ln lc] 345)).alloc (.cells #[.slice a p.length cap] 66)).heap.size ((w.alloc (.cells #[.slice la ln lc] 345)).alloc (.cells #[.slice a p.length cap] 66)) wz:=by rw[<-hwz];exact Ax.drew
 rw[hwz];have BZ:=hid (AC B2.o hz);have SZ:Hid (wz.cell? ⟨w.heap.size,0,none⟩=some (.slice la ln lc)/\wz.cell? ⟨w.heap.size+1,0,none⟩=some (.slice a p.length cap)):=⟨wS d1 hz,wS d2 hz⟩;clear hz hwz d1 d2 B2;refine wpAny_of_held (S:=fun wx=>wx.cell? ⟨w.heap.size,0,none⟩=some (.slice la ln lc)/\wx.cell? ⟨w.heap.size+1,0,none⟩=some (.slice a p.length cap)) _ _ _ _ ?_;refine dH 0 rfl SZ.o (by intro w hSw;obtain⟨z1,z2⟩:=hSw;exact gs) ?_;refine dH 1 rfl SZ.o (by intro w hSw;obtain⟨z1,z2⟩:=hSw;exact gs) ?_;refine dH 2 rfl SZ.o (by intro w hSw;obtain⟨z1,z2⟩:=hSw;exact gs) ?_;refine dH 3 rfl SZ.o (by intro w hSw;obtain⟨z1,z2⟩:=hSw;exact gs) ?_;refine iW 4 fun K hK=>?_;go_simp
 refine pmb (HF.o wz BZ.o) fun w1 hb1=>?_;have B1:=hid (AC BZ.o hb1);have S1:Hid (w1.cell? ⟨w.heap.size,0,none⟩=some (.slice la ln lc)/\w1.cell? ⟨w.heap.size+1,0,none⟩=some (.slice a p.length cap)):=⟨wS SZ.o.1 hb1,wS SZ.o.2 hb1⟩;clear hb1;refine hK.o _ _ S1.o (fun _=>?_);clear hK K;refine iW 5 fun K hK=>?_;go_simp;refine pmb (aa6 p.length a cap s w1 hlen.2) fun wq hwq=>?_;have BQ:=hid (AC B1.o hwq);have SQ:Hid (wq.cell? ⟨w.heap.size,0,none⟩=some (.slice la ln lc)/\wq.cell? ⟨w.heap.size+1,0,none⟩=some (.slice a p.length cap)):=⟨wS S1.o.1 hwq,wS S1.o.2 hwq⟩;clear hwq;refine hK.o _ _ SQ.o (fun _=>?_);clear hK K;refine iW 6 fun K hK=>?_;go_simp;refine hK.o _ _ (SQ.o) (fun _=>?_);clear hK K;refine wpAnyH_done Ao ?_ _
 go_wp2_with fail;go_ret;exact⟨rfl,BQ.o⟩
def lsS(S:List Step->Nat)(s:Nat):bY->Nat
 |[]=>s
 |c::r=>lsS S (s ||| S c) r
theorem aeK(S:List Step->Nat)(s:Nat){l:bY}{i:Nat}(h:i<l.length):lsS S s (l.drop i)=lsS S (s ||| S l[i]) (l.drop (i+1)):=by rw[List.drop_eq_getElem_cons h];rfl
theorem Zr(s t:Nat)(h:s<18446744073709551616)(ht:t<18446744073709551616):s ||| t<18446744073709551616:=by
 have e:(18446744073709551616:Nat)=2 ^ 64:=by decide
 rw[e]at h ht⊢;exact Nat.or_lt_two_pow h ht
theorem aeL(S:List Step->Nat)(hS:∀c,S c<18446744073709551616):∀(l:bY) (s:Nat),s<18446744073709551616->lsS S s l<18446744073709551616
 |[],_,h=>h
 |c::r,s,h=>aeL S hS r _ (Zr s _ h (hS c))
theorem aiy(f B:Nat)(S:List Step->Nat)(l:bY)(v:Av)(p:aI)(a:Option Addr)(cap:Nat)(w:WD)(h:SG (AA (aQ f)) 1 (fun b=>b<B) w v l)(hp:jZ B w p a cap)(hS:∀c,S c<18446744073709551616)
  (hC:∀c∈l,∀(cv:Av) (w':WD),Below w.heap.size w w'->SG (fO (aQ f)) 2 (fun b=>b<B) w' cv c->Calls prog 74 #[cv,.agg #[.slice a p.length cap]] w' fun ex w''=>ex=.returned (.int .u64 (S c:Int))/\Below w'.heap.size w' w''):
  Calls prog 46 #[v,.agg #[.slice a p.length cap]] w fun ex w'=>ex=.returned (.int .u64 (lsS S 0 l:Int))/\Below w.heap.size w w':=by
 have hl:=h.len;have hlen:=hp.len;have hBw:=hp.lt;have B0:Hid (Below w.heap.size w (w.alloc (.cells #[.slice a p.length cap] 66))):=Ax.alloc nl _;have V0:Hid (bU (w.alloc (.cells #[.slice a p.length cap] 66)) w.heap.size (.slice a p.length cap) 66):=bU.new _ _ _;have hF:Hid (Fair (AA (aQ f))):=One.fair (fO.fair (aQ.fair f));have HS:=hid (h.below hF.o B0.o hBw);have HCC:=hid hC;have HSL:=hid hS;obtain⟨ca,cc,rfl⟩:=h.form;clear h hp hC hS;obtain⟨R,HR⟩:=Nm (lsS S 0 l);rw[HR.o]
 go_in;go_wp2_with fail;generalize hw0:w.alloc (.cells #[.slice a p.length cap] 66)=w0 at *;have hs0:w0.heap.size=w.heap.size+1:=by rw[<-hw0];simp
 clear hw0;obtain⟨pb,Hpb⟩:=Nm w.heap.size;have hpb:=Hpb.o;rw[hpb]at V0;rw[hpb];go_loopg[5,10] l.length (fun gg v5 v10 wr=>∃(s i:Nat),v5=.int .u64 (s:Int)/\v10=.int .i64 (i:Int)/\i+gg=l.length/\s<18446744073709551616/\Aside (lsS S s (l.drop i)=R/\Below w0.heap.size w0 wr));case atStart=>exact⟨0,0,rfl,rfl,oo,oo,HR.o,Ax⟩
 case round=>
  obtain⟨go,hgo⟩:∃go,go=gk:=⟨_,rfl⟩;obtain⟨s,i,rfl,rfl,hi,hs,hA⟩:=hrel;have HC:Hid (lsS S s (l.drop i)=R/\Below w0.heap.size w0 wr):=hA.o;clear hA;have hsr:=HC.o.2.size;by_cases hlt:i<l.length
  .have h1:(i:Int)<(l.length:Int):=oo;have hS5:=HS.o.below hF.o HC.o.2 oo;obtain⟨g,o,rfl,hL,hcap⟩:=hS5.here (by rintro rfl;simp at hlt);obtain⟨cv,d0,hcv,hgB⟩:=hL.cxq (i:=i) hlt;have agf:g<B:=hgB;have BW:Hid (Below w.heap.size w wr):=by
    have q:Below w0.heap.size w0 wr:=HC.o.2;exact B0.o.trans (q.mono oo)
   have hcc:=HCC.o l[i] (List.getElem_mem hlt) cv wr BW.o hcv;have HD:Hid (lsS S s (l.drop i)=lsS S (s ||| S l[i]) (l.drop (i+1))):=aeK S s hlt;have ht:=HSL.o l[i];generalize S l[i]=t at *;obtain⟨la,lc,rfl⟩:=hcv.form;generalize l[i].length=ln at *;have sH:=hid hcc;have HE:=hid (HD.o.symm.trans HC.o.1);have HB:=hid (bits_or_u64_nat s t hs ht);have hst:s ||| t<18446744073709551616:=Zr s t hs ht;have V2:=hid (V0.o.below HC.o.2 oo);have c0:=V2.o.c;clear hcv hcc HD hL hS5;go_wp2_with fail;refine sH.o.mono ?_;rintro e w6 ⟨rfl,hb6⟩;have X6:=hid (HC.o.2.trans (hb6.mono hsr))
   clear hb6 sH c0 d0;go_wp2_with fail;go_roundg(go-1);case measure=>omega
   case rel=>exact⟨s ||| t,i+1,by rw[HB.o],by congr 1,oo,hst,HE.o,X6.o⟩
  .have h1:(l.length:Int)<=(i:Int):=oo;have HV:Hid (s=R):=by
    show _=_;rw[<-HC.o.1,List.drop_of_length_le (show l.length<=i by omega)];rfl
   have BE:Hid (Below w.heap.size w wr):=by have:Below w0.heap.size w0 wr:=HC.o.2;exact B0.o.trans (this.mono oo)
   go_wp2_with fail;go_ret;exact⟨by rw[HV.o];rfl,BE.o⟩
def GN(p:aI)(cb s:Nat):Nat:=
 if cb=32 then mD p s p.length
 else if cb=62 then jq (fun i=>hasB s (parentOf p i)) p.length
 else if cb=43 then jq (fun i=>wR p s i) p.length
 else if cb=126 then jq (fun i=>(Sp.ahead p i).any fun j=>s.testBit j) p.length
 else 2 ^ p.length-1
theorem aeM(p:aI)(cb s:Nat)(hp:p.length<=30):GN p cb s<18446744073709551616:=by
 unfold GN;have:=wB p.length hp;repeat' split
 all_goals first|omega|exact EO p s _ hp|exact uJ _ _ hp
theorem ahx(B:Nat)(p:aI)(a:Option Addr)(cap cb s:Nat)(w:WD)(h:jZ B w p a cap)(hs:s<18446744073709551616):
  Calls prog 127 #[.int .i64 (sG cb),.int .u64 (s:Int),.agg #[.slice a p.length cap]] w fun ex w'=>ex=.returned (.int .u64 (GN p cb s:Int))/\Below w.heap.size w w':=by
 have B0:Hid (Below w.heap.size w (w.alloc (.cells #[.slice a p.length cap] 66))):=Ax.alloc nl _;have V0:Hid (bU (w.alloc (.cells #[.slice a p.length cap] 66)) w.heap.size (.slice a p.length cap) 66):=bU.new _ _ _;have hlen:=h.len;have wX:Hid (jZ B (w.alloc (.cells #[.slice a p.length cap] 66)) p a cap):=h.alloc _;have hsz:=B0.o.size;clear h;have c0:=V0.o.c;by_cases e0:cb=32
 .have HV:Hid (GN p cb s=mD p s p.length):=by show _=_;unfold GN;rw[if_pos e0]
  rw[show sG cb=1 by unfold sG;rw[if_pos e0],HV.o];clear HV e0;go_in;go_wp2_with fail;generalize w.alloc (.cells #[.slice a p.length cap] 66)=w0 at *;refine pmb (ag5 B p a cap s _ wX.o hs) fun wq hwq=>?_;have B3:=hid (B0.o.trans (hwq.mono hsz));clear hwq;go_wp2_with fail;go_ret;exact⟨rfl,B3.o⟩
 by_cases e1:cb=62
 .have HV:Hid (GN p cb s=jq (fun i=>hasB s (parentOf p i)) p.length):=by show _=_;unfold GN;rw[if_neg e0,if_pos e1]
  rw[show sG cb=2 by unfold sG;rw[if_neg e0,if_pos e1],HV.o];clear HV e0 e1;go_in;go_wp2_with fail;generalize w.alloc (.cells #[.slice a p.length cap] 66)=w0 at *;refine pmb (XL B p a cap s _ wX.o hs) fun wq hwq=>?_;have B3:=hid (B0.o.trans (hwq.mono hsz));clear hwq;go_wp2_with fail;go_ret;exact⟨rfl,B3.o⟩
 by_cases e2:cb=43
 .have HV:Hid (GN p cb s=jq (fun i=>wR p s i) p.length):=by show _=_;unfold GN;rw[if_neg e0,if_neg e1,if_pos e2]
  rw[show sG cb=3 by unfold sG;rw[if_neg e0,if_neg e1,if_pos e2],HV.o];clear HV e0 e1 e2;go_in;go_wp2_with fail;generalize w.alloc (.cells #[.slice a p.length cap] 66)=w0 at *;refine pmb (aj8 B p a cap s _ wX.o hs) fun wq hwq=>?_;have B3:=hid (B0.o.trans (hwq.mono hsz));clear hwq;go_wp2_with fail;go_ret;exact⟨rfl,B3.o⟩
 by_cases e3:cb=126
 focus
  have HV:Hid (GN p cb s=jq (fun i=>(Sp.ahead p i).any fun j=>s.testBit j) p.length):=by show _=_;unfold GN;rw[if_neg e0,if_neg e1,if_neg e2,if_pos e3]
  rw[show sG cb=4 by unfold sG;rw[if_neg e0,if_neg e1,if_neg e2,if_pos e3],HV.o];clear HV e0 e1 e2 e3;go_in;go_wp2_with fail;generalize w.alloc (.cells #[.slice a p.length cap] 66)=w0 at *;refine(aeD B p a cap s _ wX.o hs).mono ?_
 rotate_left;focus
  have HV:Hid (GN p cb s=2 ^ p.length-1):=by show _=_;unfold GN;rw[if_neg e0,if_neg e1,if_neg e2,if_neg e3]
  rw[show sG cb=0 by unfold sG;rw[if_neg e0,if_neg e1,if_neg e2,if_neg e3],HV.o];clear HV e0 e1 e2 e3;go_in;go_wp2_with fail;generalize w.alloc (.cells #[.slice a p.length cap] 66)=w0 at *;refine(TP p.length a cap _ hlen.2).mono ?_
 rotate_left;all_goals
  rintro e wq ⟨rfl,hwq⟩;have B3:=hid (B0.o.trans (hwq.mono hsz));clear hwq;go_wp2_with fail;go_ret;exact⟨rfl,B3.o⟩
def atF(nm:BY)(ft:BY->Bool):List (BY×BY)->Bool
 |[]=>false
 |y::r=>if y.1=nm then ft y.2 else atF nm ft r
def AtB(w:WD)(b:Nat)(nm how v:BY):Prop:=w.heap[b]?=some (.cells #[.string nm,.string how,.string v] 341 (0,0))
theorem AtB.cs{w:WD}{b:Nat}{nm how v:BY}(h:AtB w b nm how v):w.cell? ⟨b,0,none⟩=some (.string nm)/\w.cell? ⟨b,1,none⟩=some (.string how)/\w.cell? ⟨b,2,none⟩=some (.string v):=by unfold World.cell?;rw[show w.heap[b]?=_ from h];exact⟨rfl,rfl,rfl⟩
theorem AtB.lt{w:WD}{b:Nat}{nm how v:BY}(h:AtB w b nm how v):b<w.heap.size:=(Ay h)
theorem AtB.below{w w':WD}{b:Nat}{nm how v:BY}{g:Nat}(h:AtB w b nm how v)(hb:Below g w w')(hg:b<g):AtB w' b nm how v:=(hb.block b hg).trans h
def A2z(w:WD)(b:Nat)(x y:BY):Prop:=w.heap[b]?=some (.cells #[.string x,.string y] 96 (0,0))
theorem A2z.new(w:WD)(x y:BY):A2z (w.alloc (.cells #[.string x,.string y] 96)) w.heap.size x y:=heap_alloc_new w _
theorem A2z.cs{w:WD}{b:Nat}{x y:BY}(h:A2z w b x y):w.cell? ⟨b,0,none⟩=some (.string x)/\w.cell? ⟨b,1,none⟩=some (.string y):=by unfold World.cell?;rw[show w.heap[b]?=_ from h];exact⟨rfl,rfl⟩
theorem ahy(B:Nat)(x:Elem)(ca:Option Addr)(cl cc:Nat)(av:Av)(nm how v:BY)(ft:BY->Bool)(tb:Nat)(w:WD)(hb:AtB w tb nm how v)(hA:SG qH 2 (fun b=>b<B) w av x.attrs)(hB:B<=w.heap.size)(hv:∀y∈x.attrs,dK y.2=true)
  (hf:∀(y:BY) (w':WD),dK y=true->Below w.heap.size w w'->Calls prog 346 #[.agg #[.string nm,.string how,.string v],.string y] w' fun ex w''=>ex=.returned (.bool (ft y))/\Below w'.heap.size w' w''):
  Calls prog 345 #[Gh x (.slice ca cl cc) av,.pointer (some ⟨tb,0,none⟩)] w fun ex w'=>ex=.returned (.bool (atF nm ft x.attrs))/\Below w.heap.size w w':=by
 have hl:=hA.len;obtain⟨aa,ac,rfl⟩:=hA.form;unfold Gh;have X0:Hid (XE (w.alloc (.cells #[.int .i64 x.parent,.string x.tag,.string x.id,.slice ca cl cc,.slice aa x.attrs.length ac] 35)) w.heap.size x (.slice ca cl cc) (.slice aa x.attrs.length ac)):=heap_alloc_new w _;have B0:Hid (Below w.heap.size w (w.alloc (.cells #[.int .i64 x.parent,.string x.tag,.string x.id,.slice ca cl cc,.slice aa x.attrs.length ac] 35))):=Ax.alloc nl _;have A0:=hid (hA.below qH.fair B0.o hB);have T0:=hid (hb.below B0.o hb.lt);have htb:=hb.lt
 have HF:=hid hf;have HVP:=hid hv;clear hA hb hf hv;obtain⟨d0,d1,d2,d3,d4⟩:=X0.o.cs;obtain⟨R,HR⟩:=Nm (atF nm ft x.attrs);rw[HR.o];go_in;go_upto_region 1 with fail
 generalize hw0:w.alloc (.cells #[.int .i64 x.parent,.string x.tag,.string x.id,.slice ca cl cc,.slice aa x.attrs.length ac] 35)=w0 at *;have hs0:w0.heap.size=w.heap.size+1:=by rw[<-hw0];simp
 clear hw0;go_wp2_with fail;clear d0 d1 d2 d3 d4 X0;generalize x.attrs=l at *;go_loopg[9] l.length (fun gg v9 wr=>∃(i:Nat),v9=.int .i64 (i:Int)/\i+gg=l.length/\Aside (atF nm ft (l.drop i)=R/\Below w0.heap.size w0 wr));case atStart=>exact⟨0,rfl,oo,HR.o,Ax⟩
 case round=>
  obtain⟨go,hgo⟩:∃go,go=gk:=⟨_,rfl⟩;obtain⟨i,rfl,hi,hA⟩:=hrel;have HC:Hid (atF nm ft (l.drop i)=R/\Below w0.heap.size w0 wr):=hA.o;clear hA;have hsr:=HC.o.2.size;by_cases hlt:i<l.length
  .have h1:(i:Int)<(l.length:Int):=oo;have hS5:=A0.o.below qH.fair HC.o.2 oo;obtain⟨g,o,rfl,hL,hcap⟩:=hS5.here (by rintro rfl;simp at hlt);obtain⟨hgB,e0,e1,_,_⟩:=hL.att (i:=i) hlt;have agf:g<B:=hgB;obtain⟨y,hy⟩:∃y,y=l[i]:=⟨_,rfl⟩;have hvy:dK y.2=true:=by rw[hy];exact HVP.o _ (List.getElem_mem hlt)
   have Hdr:Hid (l.drop i=y::l.drop (i+1)):=by show _=_;rw[hy];exact List.drop_eq_getElem_cons hlt
   rw[<-hy]at e0 e1;clear hL hy hS5;obtain⟨y1,y2⟩:=y;have HVY:=hid hvy;clear hvy;have e0':wr.cell? ⟨g,o+i*2,none⟩=some (.string y1):=e0;have e1':wr.cell? ⟨g,o+i*2+1,none⟩=some (.string y2):=e1;have HD:Hid ((if y1=nm then ft y2 else atF nm ft (l.drop (i+1)))=R):=by show _=_;rw[<-HC.o.1,Hdr.o];rfl
   clear e0 e1 Hdr;have T2:Hid (A2z (wr.alloc (.cells #[.string y1,.string y2] 96)) wr.heap.size y1 y2):=A2z.new _ _ _;have X2:Hid (Below w0.heap.size w0 (wr.alloc (.cells #[.string y1,.string y2] 96))):=HC.o.2.alloc hsr _;go_upto_region 4 with fail
   generalize wr.alloc (.cells #[.string y1,.string y2] 96)=w2 at *;obtain⟨gt,mV⟩:=Nm wr.heap.size;have T3:Hid (A2z w2 gt y1 y2):=by rw[<-mV.o];exact T2.o
   rw[mV.o];clear T2 e0' e1';obtain⟨a0,a1⟩:=T3.o.cs;obtain⟨t0,t1,t2⟩:=(T0.o.below X2.o oo).cs;have hs2:=X2.o.size;have hnm:(y1.toList==nm.toList)=decide (y1=nm):=bytes_beq _ _;by_cases en:y1=nm
   .rw[decide_eq_true en]at hnm;have HV:Hid (ft y2=R):=by rw[<-HD.o,if_pos en];exact rfl
    have BW:=hid (B0.o.trans (X2.o.mono oo));have sH:=HF.o y2 w2 HVY.o BW.o;rw[HV.o]at sH;have HC2:=hid sH;clear sH en HD;go_wp2_with fail;refine HC2.o.mono ?_;rintro e w6 ⟨rfl,hb6⟩;have X6:=hid (BW.o.trans (hb6.mono oo));clear hb6;go_wp2_with fail;go_ret;exact⟨rfl,X6.o⟩
   .rw[decide_eq_false en]at hnm;have HV:Hid (atF nm ft (l.drop (i+1))=R):=by rw[<-HD.o,if_neg en];exact rfl
    clear en HD;go_wp2_with fail;go_roundg(go-1);case measure=>omega
    case rel=>exact⟨i+1,by congr 1,oo,HV.o,X2.o⟩
  .have h1:(l.length:Int)<=(i:Int):=oo;have HV:Hid (false=R):=by
    show _=_;rw[<-HC.o.1,List.drop_of_length_le (show l.length<=i by omega)];rfl
   have BE:Hid (Below w.heap.size w wr):=by have:Below w0.heap.size w0 wr:=HC.o.2;exact B0.o.trans (this.mono oo)
   go_wp2_with fail;go_ret;exact⟨by rw[<-HV.o];rfl,BE.o⟩
theorem aby{p:aI}(h:iL p=true){i:Nat}(hi:i<p.length):∀y∈p[i].attrs,dK y.2=true:=by unfold iL at h;simp only[Bool.and_eq_true]at h;have h1:=Eo p 0 i h.2 hi;unfold xC at h1;simp only[Bool.and_eq_true,List.all_eq_true]at h1;intro y hy;exact(h1.2 y hy).1.2
theorem ahz(w:WD)(nm how v:BY)(o:Obj):AtB ((w.alloc (.cells #[.string nm,.string how,.string v] 341)).alloc o) w.heap.size nm how v:=by have q:AtB (w.alloc (.cells #[.string nm,.string how,.string v] 341)) w.heap.size nm how v:=heap_alloc_new w _;exact q.below (Ax.alloc nl _) q.lt
theorem ahA(B:Nat)(p:aI)(a:Option Addr)(cap:Nat)(nm how v:BY)(ft:BY->Bool)(w:WD)(h:jZ B w p a cap)
  (hf:∀(y:BY) (w':WD),dK y=true->Below w.heap.size w w'->Calls prog 346 #[.agg #[.string nm,.string how,.string v],.string y] w' fun ex w''=>ex=.returned (.bool (ft y))/\Below w'.heap.size w' w''):
  Calls prog 342 #[.agg #[.string nm,.string how,.string v],.agg #[.slice a p.length cap]] w fun ex w'=>ex=.returned (.int .u64 (jq (TQ p (fun x=>atF nm ft x.attrs)) p.length:Int))/\Below w.heap.size w w':=by
 have hmf:=nI;have hBw:=h.lt;have B2:Hid (Below w.heap.size w ((w.alloc (.cells #[.string nm,.string how,.string v] 341)).alloc (.cells #[.slice a p.length cap] 66))):=NP _ _ _;have H1:Hid (AtB ((w.alloc (.cells #[.string nm,.string how,.string v] 341)).alloc (.cells #[.slice a p.length cap] 66)) w.heap.size nm how v):=ahz _ _ _ _ _;have V2:bU ((w.alloc (.cells #[.string nm,.string how,.string v] 341)).alloc (.cells #[.slice a p.length cap] 66)) (w.heap.size+1) (.slice a p.length cap) 66:=Zq _ _ _ _;have P2:=hid (h.below B2.o hBw);obtain⟨c0,c1,c3⟩:=H1.o.cs;have c2:=V2.c
 have HF:=hid hf;clear V2 h hf;go_in;go_wp2_with fail;generalize((w.alloc (.cells #[.string nm,.string how,.string v] 341)).alloc (.cells #[.slice a p.length cap] 66))=w2 at *;refine(GK B p a cap _ _ (fun x=>atF nm ft x.attrs) w2 P2.o (fun _ _=>rfl) ?_).mono ?_
 .intro i hi cv av w' hb' hcv hav;obtain⟨ca,cc,rfl⟩:=hcv.form;exact ahy B _ _ _ _ _ nm how v ft _ w' (H1.o.below hb' H1.o.lt) hav (Nat.le_trans P2.o.lt hb'.size) (aby P2.o.pg hi) (fun y w'' hy aea=>HF.o y w'' hy ((AC B2.o hb').trans (aea.mono (Nat.le_trans B2.o.size hb'.size))))
 .rintro e wq ⟨rfl,hwq⟩;have B3:=hid (AC B2.o hwq);clear hwq;go_wp2_with fail;go_ret;exact⟨rfl,B3.o⟩
