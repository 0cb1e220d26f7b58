import Derived.Test.YtlliliddljkbfaaGreatC27
set_option maxHeartbeats 64000000
set_option maxRecDepth 100000
namespace Go.Proofs.YtlliliddljkbfaaGreat
open Go.Proofs.Tryz (prog)
open Go.RowKit Sp
def Zt(P:Simple->Nat)(s:Nat):List Simple->Nat
 |[]=>s
 |x::r=>Zt P (s &&& P x) r
def Kv(p:aI)(P:Simple->Nat)(s:Nat):List Step->Nat
 |[]=>s
 |(cb,all)::r=>Kv p P (Zt P (GN p cb s) all) r
theorem aeN(P:Simple->Nat)(s:Nat){l:List Simple}{i:Nat}(h:i<l.length):Zt P s (l.drop i)=Zt P (s &&& P l[i]) (l.drop (i+1)):=by rw[List.drop_eq_getElem_cons h];rfl
theorem aeO(p:aI)(P:Simple->Nat)(s:Nat){l:List Step}{i:Nat}(h:i<l.length):Kv p P s (l.drop i)=Kv p P (Zt P (GN p l[i].1 s) l[i].2) (l.drop (i+1)):=by rw[List.drop_eq_getElem_cons h];generalize l[i]=st;obtain⟨cb,all⟩:=st;rfl
theorem aeP(P:Simple->Nat):∀(l:List Simple) (s:Nat),s<18446744073709551616->Zt P s l<18446744073709551616
 |[],_,h=>h
 |_::r,s,h=>aeP P r _ (TR s _ h)
theorem PK(p:aI)(P:Simple->Nat)(hp:p.length<=30):∀(l:List Step) (s:Nat),s<18446744073709551616->Kv p P s l<18446744073709551616
 |[],_,h=>h
 |(cb,all)::r,s,_=>PK p P hp r _ (aeP P all _ (aeM p cb s hp))
def XO(f B:Nat)(p:aI)(a:Option Addr)(cap:Nat)(w:WD)(P:Simple->Nat):Prop:=
 ∀(x:Simple) (w':WD),Below w.heap.size w w'->∀pv,aQ f (fun b=>b<B) w' x [pv] ->
  ∃ T u K rcv, pv = .iface T u ∧ (∀ W : WD, (method 503 T u "rinse/selectors.on").run prog W = .ok (K, rcv) W) ∧ (∀ (args : Array Av) (W : WD), (callFunc K args).run prog W = .ok (.enter K args) W) ∧
   Calls prog K #[rcv,.agg #[.slice a p.length cap]] w' fun e w''=>e=.returned (.int .u64 (P x:Int))/\Below w'.heap.size w' w''
theorem aeQ(f B:Nat)(P:Simple->Nat)(cx:List Step)(v:Av)(p:aI)(a:Option Addr)(cap:Nat)(w:WD)(h:SG (fO (aQ f)) 2 (fun b=>b<B) w v cx)(hp:jZ B w p a cap)(hP:∀x,P x<18446744073709551616)(hr:XO f B p a cap w P):
  Calls prog 74 #[v,.agg #[.slice a p.length cap]] w fun ex w'=>ex=.returned (.int .u64 (Kv p P 0 cx:Int))/\Below w.heap.size w w':=by
 have hl:=h.len;have hlen:=hp.len;have hBw:=hp.lt;have B0:Hid (Below w.heap.size w (w.alloc (.cells #[.slice a p.length cap] 66))):=Ax.alloc nl _;have V0:Hid (bU (w.alloc (.cells #[.slice a p.length cap] 66)) w.heap.size (.slice a p.length cap) 66):=bU.new _ _ _;have wX:Hid (jZ B (w.alloc (.cells #[.slice a p.length cap] 66)) p a cap):=hp.alloc _;have hF:Hid (Fair (fO (aQ f))):=fO.fair (aQ.fair f);have hF2:Hid (Fair (aQ f)):=aQ.fair f;have HS:=hid (h.below hF.o B0.o hBw);have HRD:Hid (XO f B p a cap w P):=hr;have HPL:Hid (∀x,P x<18446744073709551616):=hP;obtain⟨ca,cc,rfl⟩:=h.form;clear h hp hr hP;obtain⟨R,HR⟩:=Nm (Kv p P 0 cx);rw[HR.o];go_in;go_wp2_with fail
 generalize hw0:w.alloc (.cells #[.slice a p.length cap] 66)=w0 at *;have hs0:w0.heap.size=w.heap.size+1:=by rw[<-hw0];simp
 clear hw0;obtain⟨pb,Hpb⟩:=Nm w.heap.size;have hpb:=Hpb.o;rw[hpb]at V0;rw[hpb];go_loopg[5,12] cx.length (fun gg v5 v12 wr=>∃(s i:Nat),v5=.int .u64 (s:Int)/\v12=.int .i64 (i:Int)/\i+gg=cx.length/\s<18446744073709551616/\Aside (Kv p P s (cx.drop i)=R/\Below w0.heap.size w0 wr));case atStart=>exact⟨0,0,rfl,rfl,oo,oo,HR.o,Ax⟩
 case round=>
  obtain⟨go,hgo⟩:∃go,go=gk:=⟨_,rfl⟩;obtain⟨s,i,rfl,rfl,hi,hs,hA⟩:=hrel;have HC:Hid (Kv p P s (cx.drop i)=R/\Below w0.heap.size w0 wr):=hA.o;clear hA;have hsr:=HC.o.2.size;by_cases hlt:i<cx.length
  .have h1:(i:Int)<(cx.length:Int):=oo;obtain⟨g,o,rfl,hL,hcap⟩:=HS.o.here (by rintro rfl;simp at hlt);obtain⟨av,d0,d1,hav,hgB⟩:=hL.stq (i:=i) hlt;have agf:g<B:=hgB;rw[<-HC.o.2.cell (p:=⟨g,_,none⟩) (show g<w0.heap.size by omega)]at d0 d1;have HD:Hid (Kv p P s (cx.drop i)=Kv p P (Zt P (GN p cx[i].1 s) cx[i].2) (cx.drop (i+1))):=aeO p P s hlt;generalize cx[i]=st at *;obtain⟨cb,all⟩:=st;have Ze:Hid (Kv p P (Zt P (GN p cb s) all) (cx.drop (i+1))=R):=HD.o.symm.trans HC.o.1;have PL:SG (aQ f) 1 (fun b=>b<B) w0 av all:=hav;have HAV:=hid PL;have hal:=PL.len;obtain⟨la,lc,rfl⟩:=PL.form;have d0':wr.cell? ⟨g,o+i*2,none⟩=some (.int .i64 (sG cb)):=d0;clear hav PL hL HD d0
   have T2:Hid (Vj (wr.alloc (.cells #[.int .i64 (sG cb),.slice la all.length lc] 219)) wr.heap.size (.int .i64 (sG cb)) (.slice la all.length lc)):=Vj.new _ _ _;have X2:Hid (Below w0.heap.size w0 (wr.alloc (.cells #[.int .i64 (sG cb),.slice la all.length lc] 219))):=HC.o.2.alloc hsr _;go_upto_region 5 with fail
   generalize wr.alloc (.cells #[.int .i64 (sG cb),.slice la all.length lc] 219)=w2 at *;obtain⟨gt,mV⟩:=Nm wr.heap.size;have T3:Hid (Vj w2 gt (.int .i64 (sG cb)) (.slice la all.length lc)):=by rw[<-mV.o];exact T2.o
   rw[mV.o];clear T2 d0' d1;obtain⟨a0,a1⟩:=T3.o.cs;have hs2:=X2.o.size;have V2:Hid (bU w2 pb (.slice a p.length cap) 66):=V0.o.below X2.o oo;have c0:=V2.o.c;have P2:=hid (wX.o.below X2.o wX.o.lt);go_wp2_with fail;refine(ahx B p a cap cb s _ P2.o hs).mono ?_;obtain⟨s1,Az⟩:=Nm (GN p cb s);have hs1:s1<18446744073709551616:=by rw[<-Az.o];exact aeM p cb s hlen.2
   rw[Az.o];rw[Az.o]at Ze;rintro e w3 ⟨rfl,hb3⟩;have X3:=hid (X2.o.trans (hb3.mono hs2));have T4:Hid (Vj w3 gt (.int .i64 (sG cb)) (.slice la all.length lc)):=T3.o.below hb3;clear hb3 a0 a1 c0 T3 V2 P2;obtain⟨a0,a1⟩:=T4.o.cs;go_wp2_with fail;go_loopg[5,24] all.length (fun gg v5 v24 wr=>∃(s m:Nat),v5=.int .u64 (s:Int)/\v24=.int .i64 (m:Int)/\m+gg=all.length/\s<18446744073709551616/\Aside (Kv p P (Zt P s (all.drop m)) (cx.drop (i+1))=R/\Below w0.heap.size w0 wr));case atStart=>exact⟨s1,0,rfl,rfl,oo,hs1,Ze.o,X3.o⟩
   case round=>
    obtain⟨gi,hgi⟩:∃gi,gi=gk:=⟨_,rfl⟩;obtain⟨s2,m,rfl,rfl,hm,hsm,hA⟩:=hrel;have xg:Hid (Kv p P (Zt P s2 (all.drop m)) (cx.drop (i+1))=R/\Below w0.heap.size w0 wr):=hA.o;clear hA;have ai9:=xg.o.2.size;by_cases hlm:m<all.length
    .have h2:(m:Int)<(all.length:Int):=oo;have QY:=HAV.o.below hF2.o xg.o.2 oo;obtain⟨g5,o5,rfl,hL5,hcap5⟩:=QY.here (by rintro rfl;simp at hlm);obtain⟨pv,c5,hps,_⟩:=hL5.prq (i:=m) hlm;have HAD:=aeN P s2 hlm;generalize all[m]=x at *;have V5:Hid (bU wr pb (.slice a p.length cap) 66):=V0.o.below xg.o.2 oo;have c0:=V5.o.c;have BW5:Below w.heap.size w wr:=by
      have q:Below w0.heap.size w0 wr:=xg.o.2;exact B0.o.trans (q.mono oo)
     obtain⟨T,pu,K,rcv,rfl,YD,hcall,hC⟩:=HRD.o x wr BW5 _ hps;have sH:Hid (Calls prog K #[rcv,.agg #[.slice a p.length cap]] wr fun e w''=>e=.returned (.int .u64 (P x:Int))/\Below wr.heap.size wr w''):=hC;obtain⟨t,Ht⟩:=Nm (P x);have ht:t<18446744073709551616:=by rw[<-Ht.o];exact HPL.o x
     have HE:Hid (Kv p P (Zt P (s2 &&& t) (all.drop (m+1))) (cx.drop (i+1))=R):=by show _=_;rw[<-xg.o.1,HAD,<-Ht.o]
     have HB:Hid (bits .and .u64 (s2:Int) (t:Int)=((s2 &&& t:Nat):Int)):=bits_and_u64_nat s2 t hsm ht;have hst:s2 &&& t<18446744073709551616:=TR s2 t hsm;rw[Ht.o]at sH;clear hps hC HAD hL5 QY BW5;go_wp2_with fail;refine sH.o.mono ?_;rintro e w6 ⟨rfl,hb6⟩;have X6:=hid (xg.o.2.trans (hb6.mono ai9));clear hb6 sH YD hcall c5 c0;go_wp2_with fail;go_roundg(gi-1);case measure=>omega
     case rel=>exact⟨s2 &&& t,m+1,by rw[HB.o],by congr 1,oo,hst,HE.o,X6.o⟩
    .have h2:(all.length:Int)<=(m:Int):=oo;have HE:Hid (Kv p P s2 (cx.drop (i+1))=R):=by
      show _=_;rw[<-xg.o.1,List.drop_of_length_le (show all.length<=m by omega)];rfl
     go_wp2_with fail;go_roundg(go-1);case measure=>omega
     case rel=>exact⟨s2,i+1,rfl,by congr 1,oo,hsm,HE.o,xg.o.2⟩
  .have h1:(cx.length:Int)<=(i:Int):=oo;have HV:Hid (s=R):=by
    show _=_;rw[<-HC.o.1,List.drop_of_length_le (show cx.length<=i by omega)];rfl
   have BE:Hid (Below w.heap.size w wr):=by have:Below w0.heap.size w0 wr:=HC.o.2;exact B0.o.trans (this.mono oo)
   go_wp2_with fail;go_ret;exact⟨by rw[HV.o];rfl,BE.o⟩
abbrev lI:=BY->BY->BY->Bool
def pJ(F:lI)(w:WD):Prop:=∀(nm how v y:BY) (w':WD),dK y=true->Below w.heap.size w w'->Calls prog 346 #[.agg #[.string nm,.string how,.string v],.string y] w' fun ex w''=>ex=.returned (.bool (F how v y))/\Below w'.heap.size w' w''
theorem pJ.below{F:lI}{w w':WD}(h:pJ F w)(hb:Below w.heap.size w w'):pJ F w':=fun nm how v y w'' hy hb'=>h nm how v y w'' hy (hb.trans (hb'.mono hb.size))
def NQ(F:lI)(p:aI)(L:bY->Nat)(k:Nat)(nm how v:BY)(l:bY)(pl:Nat):Nat:=
  if k=116\/k=35\/k=46 then onS p k nm
  else if k=91 then jq (TQ p (fun x=>atF nm (F how v) x.attrs)) p.length
  else if nm=nD then Gg (2 ^ p.length-1) (L l)
  else if nm=DY then L l
  else if nm=nG then jq (fun i=>plT pl (qo p i)) p.length
  else stS p nm
def Us(F:lI)(p:aI)(L:bY->Nat):Simple->Nat
 |.mk k nm how v l pl=>NQ F p L k nm how v l pl
theorem DN(F:lI)(p:aI)(L:bY->Nat)(k:Nat)(nm how v:BY)(l:bY)(pl:Nat):Us F p L (.mk k nm how v l pl)=NQ F p L k nm how v l pl:=rfl
def Me(F:lI)(p:aI):Nat->Simple->Nat
 |0=>Us F p (fun _=>0)
 |n+1=>Us F p (fun l=>lsS (Kv p (Me F p n) 0) 0 l)
theorem akd(p:aI)(nm:BY)(hp:p.length<=30):stS p nm<18446744073709551616:=by
 unfold stS;repeat' split
 all_goals first|omega|exact uJ _ _ hp|exact Zp p hp _|exact aht p hp _
theorem Ut(F:lI)(p:aI)(L:bY->Nat)(hp:p.length<=30)(hL:∀l,L l<18446744073709551616):∀x,Us F p L x<18446744073709551616:=by
 rintro ⟨k,nm,how,v,l,pl⟩;rw[DN];unfold NQ;repeat' split
 all_goals first|exact ajO p _ _ hp|exact uJ _ _ hp|exact GI _ _|exact hL _|exact akd p _ hp
theorem aeR(F:lI)(p:aI)(hp:p.length<=30):∀n x,Me F p n x<18446744073709551616
 |0,x=>Ut F p _ hp (fun _=>by decide) x
 |n+1,x=>Ut F p _ hp (fun l=>aeL _ (fun c=>PK p _ hp c 0 Al) l 0 Al) x
theorem ahB (nm how v : BY) (W : WD) : (method 503 341 (.agg #[.string nm, .string how, .string v]) "rinse/selectors.on").run prog W = .ok (342, .agg #[.string nm, .string how, .string v]) W := by kernel_rfl
theorem ake (lv : Av) (W : WD) : (method 503 345 (.agg #[lv]) "rinse/selectors.on").run prog W = .ok (365, .agg #[lv]) W := by kernel_rfl
theorem alY (lv : Av) (W : WD) : (method 503 346 (.agg #[lv]) "rinse/selectors.on").run prog W = .ok (369, .agg #[lv]) W := by kernel_rfl
theorem aeS (nm : BY) (n : Int) (W : WD) : (method 503 351 (.agg #[.string nm, .int .i64 n]) "rinse/selectors.on").run prog W = .ok (372, .agg #[.string nm, .int .i64 n]) W := by kernel_rfl
theorem aeT (nm : BY) (W : WD) : (method 503 343 (.agg #[.string nm]) "rinse/selectors.on").run prog W = .ok (356, .agg #[.string nm]) W := by kernel_rfl
theorem akf(pl:Nat):(if pl=0 then Value.agg #[.string sZ,.int .i64 0] else if pl=1 then .agg #[.string l7,.int .i64 0] else .agg #[.string aA,.int .i64 ((pl-2:Nat):Int)])=.agg #[.string (Mc pl),.int .i64 (plI pl:Int)]:=by
 unfold Mc plI;by_cases h0:pl=0
 .rw[if_pos h0,if_pos h0,if_pos h0];rfl
 .rw[if_neg h0,if_neg h0,if_neg h0];by_cases h1:pl=1
  .rw[if_pos h1,if_pos h1,if_pos h1];rfl
  .rw[if_neg h1,if_neg h1,if_neg h1]
theorem NR(F:lI)(L:bY->Nat)(B:Nat)(p:aI)(a:Option Addr)(cap:Nat)(k:Nat)(nm how v:BY)(l:bY)(pl:Nat)(la:Option Addr)(ln lc:Nat)(w:WD)(h:jZ B w p a cap)(hfit:pJ F w)
  (hL:∀w',Below w.heap.size w w'->Calls prog 46 #[.slice la ln lc,.agg #[.slice a p.length cap]] w' fun ex w''=>ex=.returned (.int .u64 (L l:Int))/\Below w'.heap.size w' w''):
  ∃ T u K rcv, fE k nm how v (.slice la ln lc) pl = .iface T u ∧ (∀ W : WD, (method 503 T u "rinse/selectors.on").run prog W = .ok (K, rcv) W) ∧ (∀ (args : Array Av) (W : WD), (callFunc K args).run prog W = .ok (.enter K args) W) ∧
   Calls prog K #[rcv,.agg #[.slice a p.length cap]] w fun e w''=>e=.returned (.int .u64 (Us F p L (.mk k nm how v l pl):Int))/\Below w.heap.size w w'':=by
 rw[DN];unfold NQ;by_cases hk:k=116\/k=35\/k=46
 .rw[if_pos hk];obtain⟨T,u,K,rcv,h1,h2,h3,h4⟩:=ag8 B p a cap k nm how v (.slice la ln lc) pl w h hk;exact⟨T,u,K,rcv,h1,h2,h3,h4 w Ax⟩
 .rw[if_neg hk];unfold fE;rw[if_neg (fun e=>hk (Or.inl e)),if_neg (fun e=>hk (Or.inr (Or.inl e))),if_neg (fun e=>hk (Or.inr (Or.inr e)))];by_cases e1:k=91
  .rw[if_pos e1,if_pos e1];exact⟨_,_,_,_,rfl,ahB nm how v,fun _ _=>rfl,ahA B p a cap nm how v (F how v) w h (fun y w' hy hb=>hfit nm how v y w' hy hb)⟩
  .rw[if_neg e1,if_neg e1];by_cases e2:nm=nD
   .rw[if_pos e2,if_pos e2];exact⟨_,_,_,_,rfl,ake _,fun _ _=>rfl,akc B p a cap la ln lc (L l) w h hL⟩
   .rw[if_neg e2,if_neg e2];by_cases e3:nm=DY
    .rw[if_pos e3,if_pos e3];exact⟨_,_,_,_,rfl,alY _,fun _ _=>rfl,alX B p a cap la ln lc (L l) w h hL⟩
    .rw[if_neg e3,if_neg e3];by_cases e4:nm=nG
     .rw[if_pos e4,if_pos e4,akf];exact⟨_,_,_,_,rfl,aeS _ _,fun _ _=>rfl,aeJ B p a cap pl w h⟩
     .rw[if_neg e4,if_neg e4];exact⟨_,_,_,_,rfl,aeT nm,fun _ _=>rfl,aeH B p a cap nm w h⟩
theorem Uu(F:lI)(B:Nat)(p:aI)(a:Option Addr)(cap:Nat):∀(n:Nat) (w:WD),jZ B w p a cap->pJ F w->XO n B p a cap w (Me F p n)
 |0,w,h,hfit=>by
  rintro ⟨k,nm,how,v,l,pl⟩ w' hb pv hx;obtain⟨rfl,la,lc,e⟩:=hx;obtain rfl:pv=fE k nm how v (.slice la 0 lc) pl:=by simpa using e
  have h':=h.below hb h.lt;refine NR F (fun _=>0) B p a cap k nm how v [] pl la 0 lc w' h' (hfit.below hb) ?_;intro w2 hb2;exact aiy 0 B (fun _=>0) [] _ p a cap w2 ⟨la,lc,rfl,⟨Nat.zero_le _,by decide⟩,fun hn=>absurd rfl hn⟩ (h'.below hb2 h'.lt) (fun _=>by decide) (fun c hc=>by cases hc)
 |n+1,w,h,hfit=>by
  rintro ⟨k,nm,how,v,l,pl⟩ w' hb pv hx;obtain⟨lv,e,hsg⟩:=hx;obtain rfl:pv=fE k nm how v lv pl:=by simpa using e
  have h':=h.below hb h.lt;obtain⟨la,lc,rfl⟩:=hsg.form;refine NR F (fun l=>lsS (Kv p (Me F p n) 0) 0 l) B p a cap k nm how v l pl la l.length lc w' h' (hfit.below hb) ?_;intro w2 hb2;have h2:=h'.below hb2 h'.lt;have akg:=hsg.below (One.fair (fO.fair (aQ.fair n))) hb2 h'.lt;refine aiy n B (Kv p (Me F p n) 0) l _ p a cap w2 akg h2 (fun c=>PK p _ h.len.2 c 0 Al) ?_;intro c _ cv w3 hb3 hcv;have h3:=h2.below hb3 h2.lt;exact aeQ n B (Me F p n) c cv p a cap w3 hcv h3 (aeR F p h.len.2 n) (Uu F B p a cap n w3 h3 (((hfit.below hb).below hb2).below hb3))
theorem aeU(nm how v:BY)(w:WD):
  Calls prog 343 #[.agg #[.string nm,.string how,.string v]] w fun ex w'=>ex=.returned (DC 0 1 0)/\Below w.heap.size w w':=by
 unfold DC;have A0:=wQ w (.cells #[.string nm,.string how,.string v] 341);have B0:=Gf w (.cells #[.string nm,.string how,.string v] 341);go_in;go_upto_region 1 with fail
 generalize(w.alloc (.cells #[.string nm,.string how,.string v] 341)).alloc (.cells #[.int .i64 0,.int .i64 0,.int .i64 0] 177)=w2 at *;obtain⟨r0,r1,r2⟩:=A0.o.cs;have f0:=A0.o.fz 0;have f1:=A0.o.fz 1;have f2:=A0.o.fz 2;go_wp2_with fail;refine bodyPost_ret (v:=.agg #[.int .i64 0,.int .i64 1,.int .i64 0]) (by simp[results,Tryz.results343,go_sem,r0,r1,r2]) rfl ?_;exact⟨rfl,jR B0.o oo _ _ _⟩
theorem abz(nm:BY)(w:WD):
  Calls prog 357 #[.agg #[.string nm]] w fun ex w'=>ex=.returned (DC 0 1 0)/\Below w.heap.size w w':=by
 unfold DC;have A0:=wQ w (.cells #[.string nm] 343);have B0:=Gf w (.cells #[.string nm] 343);go_in;go_upto_region 1 with fail
 generalize(w.alloc (.cells #[.string nm] 343)).alloc (.cells #[.int .i64 0,.int .i64 0,.int .i64 0] 177)=w2 at *;obtain⟨r0,r1,r2⟩:=A0.o.cs;have f0:=A0.o.fz 0;have f1:=A0.o.fz 1;have f2:=A0.o.fz 2;go_wp2_with fail;refine bodyPost_ret (v:=.agg #[.int .i64 0,.int .i64 1,.int .i64 0]) (by simp[results,Tryz.results357,go_sem,r0,r1,r2]) rfl ?_;exact⟨rfl,jR B0.o oo _ _ _⟩
theorem abA(nm:BY)(n:Int)(w:WD):
  Calls prog 373 #[.agg #[.string nm,.int .i64 n]] w fun ex w'=>ex=.returned (DC 0 1 0)/\Below w.heap.size w w':=by
 unfold DC;have A0:=wQ w (.cells #[.string nm,.int .i64 n] 351);have B0:=Gf w (.cells #[.string nm,.int .i64 n] 351);go_in;go_upto_region 1 with fail
 generalize(w.alloc (.cells #[.string nm,.int .i64 n] 351)).alloc (.cells #[.int .i64 0,.int .i64 0,.int .i64 0] 177)=w2 at *;obtain⟨r0,r1,r2⟩:=A0.o.cs;have f0:=A0.o.fz 0;have f1:=A0.o.fz 1;have f2:=A0.o.fz 2;go_wp2_with fail;refine bodyPost_ret (v:=.agg #[.int .i64 0,.int .i64 1,.int .i64 0]) (by simp[results,Tryz.results373,go_sem,r0,r1,r2]) rfl ?_;exact⟨rfl,jR B0.o oo _ _ _⟩
theorem ahC(la:Option Addr)(ln lc:Nat)(x:lU)(w:WD)
  (hf:∀w',Below w.heap.size w w'->Calls prog 323 #[.slice la ln lc] w' fun ex w''=>ex=.returned (Pq x)/\Below w'.heap.size w' w''):
  Calls prog 366 #[.agg #[.slice la ln lc]] w fun ex w'=>ex=.returned (Pq x)/\Below w.heap.size w w':=by
 unfold Pq DC at *;have A0:=wQ w (.cells #[.slice la ln lc] 345);have B0:=Gf w (.cells #[.slice la ln lc] 345);have V0:Hid (bU ((w.alloc (.cells #[.slice la ln lc] 345)).alloc (.cells #[.int .i64 0,.int .i64 0,.int .i64 0] 177)) w.heap.size (.slice la ln lc) 345):=(bU.new w _ _).alloc _;have HF:Hid (∀w',Below w.heap.size w w'->Calls prog 323 #[.slice la ln lc] w' fun ex w''=>ex=.returned (.agg #[.int .i64 (x.1:Int),.int .i64 (x.2.1:Int),.int .i64 (x.2.2:Int)])/\Below w'.heap.size w' w''):=hf;clear hf;go_in;go_upto_region 1 with fail
 generalize(w.alloc (.cells #[.slice la ln lc] 345)).alloc (.cells #[.int .i64 0,.int .i64 0,.int .i64 0] 177)=w2 at *;have c0:=V0.o.c;have HC:=hid (HF.o w2 B0.o);have hs2:=B0.o.size;go_wp2_with fail;refine HC.o.mono ?_;rintro e w3 ⟨rfl,hb3⟩;have A3:Hid (W3 w3 (w.heap.size+1) 0 0 0):=A0.o.below hb3 A0.o.lt;have B3:=hid (B0.o.trans (hb3.mono hs2));clear hb3 c0;obtain⟨r0,r1,r2⟩:=A3.o.cs;have f0:=A3.o.fz 0;have f1:=A3.o.fz 1;have f2:=A3.o.fz 2;go_wp2_with fail;refine bodyPost_ret (v:=.agg #[.int .i64 (x.1:Int),.int .i64 (x.2.1:Int),.int .i64 (x.2.2:Int)]) (by simp[results,Tryz.results366,go_sem,r0,r1,r2]) rfl ?_;exact⟨rfl,jR B3.o oo _ _ _⟩
theorem akh(la:Option Addr)(ln lc:Nat)(x:lU)(w:WD)
  (hf:∀w',Below w.heap.size w w'->Calls prog 323 #[.slice la ln lc] w' fun ex w''=>ex=.returned (Pq x)/\Below w'.heap.size w' w''):
  Calls prog 370 #[.agg #[.slice la ln lc]] w fun ex w'=>ex=.returned (Pq x)/\Below w.heap.size w w':=by
 unfold Pq DC at *;have A0:=wQ w (.cells #[.slice la ln lc] 346);have B0:=Gf w (.cells #[.slice la ln lc] 346);have V0:Hid (bU ((w.alloc (.cells #[.slice la ln lc] 346)).alloc (.cells #[.int .i64 0,.int .i64 0,.int .i64 0] 177)) w.heap.size (.slice la ln lc) 346):=(bU.new w _ _).alloc _;have HF:Hid (∀w',Below w.heap.size w w'->Calls prog 323 #[.slice la ln lc] w' fun ex w''=>ex=.returned (.agg #[.int .i64 (x.1:Int),.int .i64 (x.2.1:Int),.int .i64 (x.2.2:Int)])/\Below w'.heap.size w' w''):=hf;clear hf;go_in;go_upto_region 1 with fail
 generalize(w.alloc (.cells #[.slice la ln lc] 346)).alloc (.cells #[.int .i64 0,.int .i64 0,.int .i64 0] 177)=w2 at *;have c0:=V0.o.c;have HC:=hid (HF.o w2 B0.o);have hs2:=B0.o.size;go_wp2_with fail;refine HC.o.mono ?_;rintro e w3 ⟨rfl,hb3⟩;have A3:Hid (W3 w3 (w.heap.size+1) 0 0 0):=A0.o.below hb3 A0.o.lt;have B3:=hid (B0.o.trans (hb3.mono hs2));clear hb3 c0;obtain⟨r0,r1,r2⟩:=A3.o.cs;have f0:=A3.o.fz 0;have f1:=A3.o.fz 1;have f2:=A3.o.fz 2;go_wp2_with fail;refine bodyPost_ret (v:=.agg #[.int .i64 (x.1:Int),.int .i64 (x.2.1:Int),.int .i64 (x.2.2:Int)]) (by simp[results,Tryz.results370,go_sem,r0,r1,r2]) rfl ?_;exact⟨rfl,jR B3.o oo _ _ _⟩
theorem ahD (nm how v : BY) (W : WD) : (method 503 341 (.agg #[.string nm, .string how, .string v]) "rinse/selectors.weight").run prog W = .ok (343, .agg #[.string nm, .string how, .string v]) W := by kernel_rfl
theorem aeV (nm : BY) (W : WD) : (method 503 343 (.agg #[.string nm]) "rinse/selectors.weight").run prog W = .ok (357, .agg #[.string nm]) W := by kernel_rfl
theorem aeW (nm : BY) (n : Int) (W : WD) : (method 503 351 (.agg #[.string nm, .int .i64 n]) "rinse/selectors.weight").run prog W = .ok (373, .agg #[.string nm, .int .i64 n]) W := by kernel_rfl
theorem aki (lv : Av) (W : WD) : (method 503 345 (.agg #[lv]) "rinse/selectors.weight").run prog W = .ok (366, .agg #[lv]) W := by kernel_rfl
theorem alZ (lv : Av) (W : WD) : (method 503 346 (.agg #[lv]) "rinse/selectors.weight").run prog W = .ok (370, .agg #[lv]) W := by kernel_rfl
def Uw(P:Simple->lU)(x:lU):List Simple->lU
 |[]=>x
 |s::r=>Uw P (Bg x (P s)) r
def GR(P:Simple->lU)(x:lU):List Step->lU
 |[]=>x
 |(_,all)::r=>GR P (Uw P x all) r
theorem aeX(P:Simple->lU)(x:lU){l:List Simple}{i:Nat}(h:i<l.length):Uw P x (l.drop i)=Uw P (Bg x (P l[i])) (l.drop (i+1)):=by rw[List.drop_eq_getElem_cons h];rfl
theorem aeY(P:Simple->lU)(x:lU){l:List Step}{i:Nat}(h:i<l.length):GR P x (l.drop i)=GR P (Uw P x l[i].2) (l.drop (i+1)):=by rw[List.drop_eq_getElem_cons h];generalize l[i]=st;obtain⟨cb,all⟩:=st;rfl
theorem XP(P:Simple->lU):∀(l:List Simple) (x:lU),sumW x<=sumW (Uw P x l)
 |[],_=>Nat.le_refl _
 |s::r,x=>by have:=XP P r (Bg x (P s));rw[sum_add]at this;show sumW x<=sumW (Uw P (Bg x (P s)) r);omega
theorem aeZ(P:Simple->lU):∀(l:List Step) (x:lU),sumW x<=sumW (GR P x l)
 |[],_=>Nat.le_refl _
 |(_,all)::r,x=>Nat.le_trans (XP P all x) (aeZ P r _)
def PN(f B:Nat)(w:WD)(P:Simple->lU):Prop:=
 ∀(x:Simple),zS x<=1000000->∀(w':WD),Below w.heap.size w w'->∀pv,aQ f (fun b=>b<B) w' x [pv] ->
  ∃ T u K rcv, pv = .iface T u ∧ (∀ W : WD, (method 503 T u "rinse/selectors.weight").run prog W = .ok (K, rcv) W) ∧ (∀ (args : Array Av) (W : WD), (callFunc K args).run prog W = .ok (.enter K args) W) ∧
   ∀w2,Below w'.heap.size w' w2->Calls prog K #[rcv] w2 fun e w''=>e=.returned (Pq (P x))/\Below w2.heap.size w2 w''
theorem akj(f B:Nat)(P:Simple->lU)(cx:List Step)(v:Av)(w:WD)(h:SG (fO (aQ f)) 2 (fun b=>b<B) w v cx)(hB:B<=w.heap.size)(hr:PN f B w P)(hz:∀st∈cx,∀s∈st.2,zS s<=1000000)(hn:sumW (GR P (0,0,0) cx)<=1000000):
  Calls prog 155 #[v] w fun ex w'=>ex=.returned (Pq (GR P (0,0,0) cx))/\Below w.heap.size w w':=by
 have hl:=h.len;have I0:Hid (Bh w (0,0,0) ((w.alloc (.cells #[.int .i64 0,.int .i64 0,.int .i64 0] 177)).alloc (.cells #[.int .i64 0,.int .i64 0,.int .i64 0] 177))):=⟨(W3.new w 0 0 0).alloc _,(wQ w _).o,(Gf w _).o,by simp⟩
 have hF:Hid (Fair (fO (aQ f))):=fO.fair (aQ.fair f);have hF2:Hid (Fair (aQ f)):=aQ.fair f;have HS:=hid h;have HRD:Hid (PN f B w P):=hr;have HZ:Hid (∀st∈cx,∀s∈st.2,zS s<=1000000):=hz;obtain⟨ca,cc,rfl⟩:=h.form;clear h hr hz;obtain⟨R,HR⟩:=Nm (GR P (0,0,0) cx);rw[HR.o]at hn;have HRL:Hid (sumW R<=1000000):=hn;clear hn;rw[HR.o];go_in;go_wp2_with fail;generalize(w.alloc (.cells #[.int .i64 0,.int .i64 0,.int .i64 0] 177)).alloc (.cells #[.int .i64 0,.int .i64 0,.int .i64 0] 177)=w0 at *;go_loopg[10] cx.length (fun gg v10 wr=>∃(x:lU) (i:Nat),v10=.int .i64 (i:Int)/\i+gg=cx.length/\Aside (GR P x (cx.drop i)=R/\Bh w x wr));case atStart=>exact⟨(0,0,0),0,rfl,oo,HR.o,I0.o⟩
 case round=>
  obtain⟨go,hgo⟩:∃go,go=gk:=⟨_,rfl⟩;obtain⟨x,i,rfl,hi,hA⟩:=hrel;have HC:Hid (GR P x (cx.drop i)=R/\Bh w x wr):=hA.o;clear hA;have hsr:=HC.o.2.below.size;by_cases hlt:i<cx.length
  .have h1:(i:Int)<(cx.length:Int):=oo;obtain⟨g,o,rfl,hL,hcap⟩:=HS.o.here (by rintro rfl;simp at hlt);obtain⟨av,d0,d1,hav,hgB⟩:=hL.stq (i:=i) hlt;have agf:g<B:=hgB;rw[<-HC.o.2.below.cell (p:=⟨g,_,none⟩) (show g<w.heap.size by omega)]at d0 d1;have hza:=HZ.o cx[i] (List.getElem_mem hlt);have HD:Hid (GR P x (cx.drop i)=GR P (Uw P x cx[i].2) (cx.drop (i+1))):=aeY P x hlt;generalize cx[i]=st at *;obtain⟨cb,all⟩:=st;have HZA:Hid (∀s∈all,zS s<=1000000):=hza;clear hza;have Ze:Hid (GR P (Uw P x (all.drop 0)) (cx.drop (i+1))=R):=HD.o.symm.trans HC.o.1;have PL:SG (aQ f) 1 (fun b=>b<B) w av all:=hav;have HAV:=hid PL;have hal:=PL.len;obtain⟨la,lc,rfl⟩:=PL.form;have d0':wr.cell? ⟨g,o+i*2,none⟩=some (.int .i64 (sG cb)):=d0;clear hav PL hL HD d0
   have T2:Hid (Vj (wr.alloc (.cells #[.int .i64 (sG cb),.slice la all.length lc] 219)) wr.heap.size (.int .i64 (sG cb)) (.slice la all.length lc)):=Vj.new _ _ _;have I2:Hid (Bh w x (wr.alloc (.cells #[.int .i64 (sG cb),.slice la all.length lc] 219))):=HC.o.2.next (Ax.alloc nl _);go_upto_region 5 with fail
   generalize wr.alloc (.cells #[.int .i64 (sG cb),.slice la all.length lc] 219)=w2 at *;obtain⟨gt,mV⟩:=Nm wr.heap.size;have T3:Hid (Vj w2 gt (.int .i64 (sG cb)) (.slice la all.length lc)):=by rw[<-mV.o];exact T2.o
   rw[mV.o];clear T2 d0' d1;obtain⟨a0,a1⟩:=T3.o.cs;go_wp2_with fail;go_loopg[17] all.length (fun gg v17 wr=>∃(x:lU) (m:Nat),v17=.int .i64 (m:Int)/\m+gg=all.length/\Aside (GR P (Uw P x (all.drop m)) (cx.drop (i+1))=R/\Bh w x wr));case atStart=>exact⟨x,0,rfl,oo,Ze.o,I2.o⟩
   case round=>
    obtain⟨gi,hgi⟩:∃gi,gi=gk:=⟨_,rfl⟩;obtain⟨y,m,rfl,hm,hA⟩:=hrel;have xg:Hid (GR P (Uw P y (all.drop m)) (cx.drop (i+1))=R/\Bh w y wr):=hA.o;clear hA;by_cases hlm:m<all.length
    .have h2:(m:Int)<(all.length:Int):=oo;have QY:=HAV.o.below hF2.o xg.o.2.below oo;obtain⟨g5,o5,rfl,hL5,hcap5⟩:=QY.here (by rintro rfl;simp at hlm);obtain⟨pv,c5,hps,_⟩:=hL5.prq (i:=m) hlm;have HAD:=aeX P y hlm;have hzs:=HZA.o all[m] (List.getElem_mem hlm);generalize all[m]=s at *;obtain⟨T,pu,K,rcv,rfl,YD,hcall,hC⟩:=HRD.o s hzs wr xg.o.2.below _ hps;obtain⟨t,Ht⟩:=Nm (P s);rw[Ht.o]at hC HAD;have sH:Hid (∀w',Below wr.heap.size wr w'->Calls prog K #[rcv] w' fun e w''=>e=.returned (DC (t.1:Int) (t.2.1:Int) (t.2.2:Int))/\Below w'.heap.size w' w''):=hC;have HE:Hid (GR P (Uw P (Bg y t) (all.drop (m+1))) (cx.drop (i+1))=R):=by
      have q:=xg.o.1;rw[HAD]at q;exact q
     have hle:sumW (Bg y t)<=1000000:=by have q:=aeZ P (cx.drop (i+1)) (Uw P (Bg y t) (all.drop (m+1)));rw[HE.o]at q;have q2:=XP P (all.drop (m+1)) (Bg y t);have q3:=HRL.o;omega
     have hsum:=sum_add y t;have hy1:y.1+y.2.1+y.2.2<=1000000:=by unfold sumW at hsum hle;omega
     have ht1:t.1+t.2.1+t.2.2<=1000000:=by unfold sumW at hsum hle;omega
     clear hps hC HAD hL5 QY hle hsum hzs;obtain⟨b0,b1,b2⟩:=W3.cs xg.o.2.all;have z0:=W3.fz xg.o.2.all 0;have z1:=W3.fz xg.o.2.all 1;have z2:=W3.fz xg.o.2.all 2;have HI5:=hid xg.o.2;clear xg;go_wp2_with fail;go_region_with (first
      |(go_at_call 225;refine pmb (ajI _ _ _ _ _ _ _ ⟨oo,oo⟩ ⟨oo,oo⟩ ⟨oo,oo⟩ ⟨oo,oo⟩ ⟨oo,oo⟩ ⟨oo,oo⟩) fun w7 hb7=>?_;unfold DC;have HI7:=hid (HI6.o.next hb7);clear hb7 b0 b1 b2 z0 z1 z2 HI6;obtain⟨b0,b1,b2⟩:=W3.cs HI7.o.all;have z0:=W3.fz HI7.o.all 0;have z1:=W3.fz HI7.o.all 1;have z2:=W3.fz HI7.o.all 2)
      |(refine pmb (sH.o _ (by first|exact Below.refl _ _|exact Ax.drew)) fun w6 hb6=>?_;unfold DC;have HI6:=hid ((by first|exact HI5.o.drew.next hb6|exact HI5.o.next hb6));clear hb6 b0 b1 b2 z0 z1 z2;obtain⟨b0,b1,b2⟩:=W3.cs HI6.o.all;have z0:=W3.fz HI6.o.all 0;have z1:=W3.fz HI6.o.all 1;have z2:=W3.fz HI6.o.all 2))
     all_goals
      have HI9:=hid (HI7.o.set2 y t);clear HI7 b0 b1 b2 z0 z1 z2 c5 a0 a1;generalize((w7.setCell ⟨w.heap.size+1,0,none⟩ (.int .i64 ((y.1:Int)+(t.1:Int)))).setCell ⟨w.heap.size+1,1,none⟩ (.int .i64 ((y.2.1:Int)+(t.2.1:Int)))).setCell ⟨w.heap.size+1,2,none⟩ (.int .i64 ((y.2.2:Int)+(t.2.2:Int)))=w8 at *;go_wp2_with fail;go_roundg(gi-1);case measure=>omega
      case rel=>exact⟨Bg y t,m+1,by congr 1,oo,HE.o,HI9.o⟩
    .have h2:(all.length:Int)<=(m:Int):=oo;have HE:Hid (GR P y (cx.drop (i+1))=R):=by
      show _=_;rw[<-xg.o.1,List.drop_of_length_le (show all.length<=m by omega)];rfl
     go_wp2_with fail;go_roundg(go-1);case measure=>omega
     case rel=>exact⟨y,i+1,by congr 1,oo,HE.o,xg.o.2⟩
  .have h1:(cx.length:Int)<=(i:Int):=oo;have HV:Hid (x=R):=by
    show _=_;rw[<-HC.o.1,List.drop_of_length_le (show cx.length<=i by omega)];rfl
   obtain⟨b0,b1,b2⟩:=W3.cs HC.o.2.all;obtain⟨r0,r1,r2⟩:=HC.o.2.res.cs;have z0:=HC.o.2.res.fz 0;have z1:=HC.o.2.res.fz 1;have z2:=HC.o.2.res.fz 2;go_wp2_with fail;refine bodyPost_ret (v:=.agg #[.int .i64 (x.1:Int),.int .i64 (x.2.1:Int),.int .i64 (x.2.2:Int)]) (by simp[results,Tryz.results155,go_sem,r0,r1,r2]) rfl ?_;exact⟨by rw[<-HV.o];rfl,jR HC.o.2.below nl _ _ _⟩
def lsW(C:List Step->lU)(x:lU):bY->lU
 |[]=>x
 |c::r=>lsW C (if 0<JQ (C c) x then C c else x) r
theorem ae0(C:List Step->lU)(x:lU){l:bY}{i:Nat}(h:i<l.length):lsW C x (l.drop i)=lsW C (if 0<JQ (C l[i]) x then C l[i] else x) (l.drop (i+1)):=by rw[List.drop_eq_getElem_cons h];rfl
theorem akk(w:WD)(x:lU):W3n (w.alloc (.cells #[.int .i64 (x.1:Int),.int .i64 (x.2.1:Int),.int .i64 (x.2.2:Int)] 177)) w.heap.size x:=W3.new _ _ _ _
theorem aiz(f B:Nat)(C:List Step->lU)(l:bY)(v:Av)(w:WD)(h:SG (AA (aQ f)) 1 (fun b=>b<B) w v l)(hB:B<=w.heap.size)
  (hC:∀c∈l,∀(cv:Av) (w':WD),Below w.heap.size w w'->SG (fO (aQ f)) 2 (fun b=>b<B) w' cv c->Calls prog 155 #[cv] w' fun ex w''=>ex=.returned (Pq (C c))/\Below w'.heap.size w' w''):
  Calls prog 323 #[v] w fun ex w'=>ex=.returned (Pq (lsW C (0,0,0) l))/\Below w.heap.size w w':=by
 have hl:=h.len;have I0:Hid (Bh w (0,0,0) ((w.alloc (.cells #[.int .i64 0,.int .i64 0,.int .i64 0] 177)).alloc (.cells #[.int .i64 0,.int .i64 0,.int .i64 0] 177))):=⟨(W3.new w 0 0 0).alloc _,(wQ w _).o,(Gf w _).o,by simp⟩
 have hF:Hid (Fair (AA (aQ f))):=One.fair (fO.fair (aQ.fair f));have HS:=hid h;have HCC:Hid (∀c∈l,∀(cv:Av) (w':WD),Below w.heap.size w w'->SG (fO (aQ f)) 2 (fun b=>b<B) w' cv c->Calls prog 155 #[cv] w' fun ex w''=>ex=.returned (Pq (C c))/\Below w'.heap.size w' w''):=hC;obtain⟨ca,cc,rfl⟩:=h.form;clear h hC;obtain⟨R,HR⟩:=Nm (lsW C (0,0,0) l);rw[HR.o];go_in;go_wp2_with fail;generalize(w.alloc (.cells #[.int .i64 0,.int .i64 0,.int .i64 0] 177)).alloc (.cells #[.int .i64 0,.int .i64 0,.int .i64 0] 177)=w0 at *;go_loopg[9] l.length (fun gg v9 wr=>∃(x:lU) (i:Nat),v9=.int .i64 (i:Int)/\i+gg=l.length/\Aside (lsW C x (l.drop i)=R/\Bh w x wr));case atStart=>exact⟨(0,0,0),0,rfl,oo,HR.o,I0.o⟩
 case round=>
  obtain⟨go,hgo⟩:∃go,go=gk:=⟨_,rfl⟩;obtain⟨x,i,rfl,hi,hA⟩:=hrel;have HC:Hid (lsW C x (l.drop i)=R/\Bh w x wr):=hA.o;clear hA;have hsr:=HC.o.2.below.size;by_cases hlt:i<l.length
  .have h1:(i:Int)<(l.length:Int):=oo;have hS5:=HS.o.below hF.o HC.o.2.below hB;obtain⟨g,o,rfl,hL,hcap⟩:=hS5.here (by rintro rfl;simp at hlt);obtain⟨cv,d0,hcv,hgB⟩:=hL.cxq (i:=i) hlt;have hcc:=HCC.o l[i] (List.getElem_mem hlt) cv wr HC.o.2.below hcv;have HD:=ae0 C x hlt;generalize C l[i]=t at *;obtain⟨la,lc,rfl⟩:=hcv.form;generalize l[i].length=ln at *;have Ze:Hid (lsW C (if 0<JQ t x then t else x) (l.drop (i+1))=R):=HD.symm.trans HC.o.1;have sH:Hid (Calls prog 155 #[.slice la ln lc] wr fun ex w''=>ex=.returned (.agg #[.int .i64 (t.1:Int),.int .i64 (t.2.1:Int),.int .i64 (t.2.2:Int)])/\Below wr.heap.size wr w''):=hcc;have HW:=hid HC.o.2;clear hcv hcc HD hL hS5 HC;go_wp2_with fail;refine sH.o.mono ?_;rintro e w1 ⟨rfl,hb1⟩;have I1:=hid (HW.o.next hb1);clear hb1 sH d0 HW
   have T2:Hid (W3n (w1.alloc (.cells #[.int .i64 (t.1:Int),.int .i64 (t.2.1:Int),.int .i64 (t.2.2:Int)] 177)) w1.heap.size t):=akk _ _;have I2:Hid (Bh w x (w1.alloc (.cells #[.int .i64 (t.1:Int),.int .i64 (t.2.1:Int),.int .i64 (t.2.2:Int)] 177))):=I1.o.next (Ax.alloc nl _);go_upto_region 6 with fail
   generalize w1.alloc (.cells #[.int .i64 (t.1:Int),.int .i64 (t.2.1:Int),.int .i64 (t.2.2:Int)] 177)=w2 at *;obtain⟨gt,mV⟩:=Nm w1.heap.size;rw[mV.o]at T2;rw[mV.o];obtain⟨a0,a1,a2⟩:=W3.cs T2.o;obtain⟨b0,b1,b2⟩:=W3.cs I2.o.all;go_wp2_with fail;refine(Po (t.1:Int) (t.2.1:Int) (t.2.2:Int) (x.1:Int) (x.2.1:Int) (x.2.2:Int) _).mono ?_;obtain⟨c,Hc⟩:=Nm (Pn (t.1:Int) (t.2.1:Int) (t.2.2:Int) (x.1:Int) (x.2.1:Int) (x.2.2:Int));rw[Hc.o];have HCW:Hid (JQ t x=c):=Hc.o;rw[HCW.o]at Ze;rintro ex w3 ⟨rfl,hb3⟩;have I3:=hid (I2.o.next hb3);have T3:Hid (W3n w3 gt t):=W3.below T2.o hb3 (W3.lt T2.o);clear hb3 b0 b1 b2 a0 a1 a2 T2;obtain⟨a0,a1,a2⟩:=W3.cs T3.o;by_cases hc:0<c
   .rw[if_pos hc]at Ze;obtain⟨b0,b1,b2⟩:=W3.cs I3.o.all;have z0:=W3.fz I3.o.all 0;have z1:=W3.fz I3.o.all 1;have z2:=W3.fz I3.o.all 2;have I4:=hid (I3.o.set t);go_wp2_with fail;go_roundg(go-1);case measure=>omega
    case rel=>exact⟨t,i+1,by congr 1,oo,Ze.o,I4.o⟩
   .rw[if_neg hc]at Ze;have hc':c<=0:=oo;go_wp2_with fail;go_roundg(go-1);case measure=>omega
    case rel=>exact⟨x,i+1,by congr 1,oo,Ze.o,I3.o⟩
  .have h1:(l.length:Int)<=(i:Int):=oo;have HV:Hid (x=R):=by
    show _=_;rw[<-HC.o.1,List.drop_of_length_le (show l.length<=i by omega)];rfl
   obtain⟨b0,b1,b2⟩:=W3.cs HC.o.2.all;obtain⟨r0,r1,r2⟩:=HC.o.2.res.cs;have z0:=HC.o.2.res.fz 0;have z1:=HC.o.2.res.fz 1;have z2:=HC.o.2.res.fz 2;go_wp2_with fail;refine bodyPost_ret (v:=.agg #[.int .i64 (x.1:Int),.int .i64 (x.2.1:Int),.int .i64 (x.2.2:Int)]) (by simp[results,Tryz.results323,go_sem,r0,r1,r2]) rfl ?_;exact⟨by rw[<-HV.o];rfl,jR HC.o.2.below nl _ _ _⟩
def Zu(L:bY->lU)(k:Nat)(nm:BY)(l:bY):lU:=if k=116\/k=35\/k=46 then pwt k nm else if k=91 then(0,1,0) else if nm=nD\/nm=DY then L l else(0,1,0)
def Ux(L:bY->lU):Simple->lU
 |.mk k nm _ _ l _=>Zu L k nm l
theorem Uy(L:bY->lU)(k:Nat)(nm how v:BY)(l:bY)(pl:Nat):Ux L (.mk k nm how v l pl)=Zu L k nm l:=rfl
def wA:Nat->Simple->lU
 |0=>Ux (fun _=>(0,0,0))
 |n+1=>Ux (fun l=>lsW (GR (wA n) (0,0,0)) (0,0,0) l)
theorem Kw(L:bY->lU)(k:Nat)(nm how v:BY)(l:bY)(pl:Nat)(la:Option Addr)(ln lc:Nat)(w:WD)
  (hL:∀w',Below w.heap.size w w'->Calls prog 323 #[.slice la ln lc] w' fun ex w''=>ex=.returned (Pq (L l))/\Below w'.heap.size w' w''):
  ∃ T u K rcv, fE k nm how v (.slice la ln lc) pl = .iface T u ∧ (∀ W : WD, (method 503 T u "rinse/selectors.weight").run prog W = .ok (K, rcv) W) ∧ (∀ (args : Array Av) (W : WD), (callFunc K args).run prog W = .ok (.enter K args) W) ∧
   ∀w2,Below w.heap.size w w2->Calls prog K #[rcv] w2 fun e w''=>e=.returned (Pq (Ux L (.mk k nm how v l pl)))/\Below w2.heap.size w2 w'':=by
 have hL2:∀w2,Below w.heap.size w w2->∀w',Below w2.heap.size w2 w'->Calls prog 323 #[.slice la ln lc] w' fun ex w''=>ex=.returned (Pq (L l))/\Below w'.heap.size w' w'':=fun w2 hb w' hb'=>hL w' (hb.trans (hb'.mono hb.size));rw[Uy];unfold Zu;by_cases hk:k=116\/k=35\/k=46
 .rw[if_pos hk];obtain⟨T,u,K,rcv,h1,h2,h3,h4⟩:=agW k nm how v (.slice la ln lc) pl hk;exact⟨T,u,K,rcv,h1,h2,h3,fun w2 _=>h4 w2⟩
 .rw[if_neg hk];unfold fE;rw[if_neg (fun e=>hk (Or.inl e)),if_neg (fun e=>hk (Or.inr (Or.inl e))),if_neg (fun e=>hk (Or.inr (Or.inr e)))];by_cases e1:k=91
  .rw[if_pos e1,if_pos e1];exact⟨_,_,_,_,rfl,ahD nm how v,fun _ _=>rfl,fun w2 _=>aeU nm how v w2⟩
  .rw[if_neg e1,if_neg e1];by_cases e2:nm=nD
   .rw[if_pos e2,if_pos (Or.inl e2)];exact⟨_,_,_,_,rfl,aki _,fun _ _=>rfl,fun w2 hb=>ahC la ln lc (L l) w2 (hL2 w2 hb)⟩
   .rw[if_neg e2];by_cases e3:nm=DY
    .rw[if_pos e3,if_pos (Or.inr e3)];exact⟨_,_,_,_,rfl,alZ _,fun _ _=>rfl,fun w2 hb=>akh la ln lc (L l) w2 (hL2 w2 hb)⟩
    .rw[if_neg e3,if_neg (show ¬(nm=nD\/nm=DY) from fun h=>h.elim e2 e3)];by_cases e4:nm=nG
     .rw[if_pos e4];obtain⟨nm',n',e5⟩:∃(nm':BY) (n':Int),(if pl=0 then Value.agg #[.string sZ,.int .i64 0] else if pl=1 then .agg #[.string l7,.int .i64 0] else .agg #[.string aA,.int .i64 ((pl-2:Nat):Int)])=.agg #[.string nm',.int .i64 n']:=by
       split
       .exact⟨_,_,rfl⟩
       .split
        .exact⟨_,_,rfl⟩
        .exact⟨_,_,rfl⟩
      rw[e5];exact⟨_,_,_,_,rfl,aeW _ _,fun _ _=>rfl,fun w2 _=>abA _ _ w2⟩
     .rw[if_neg e4];exact⟨_,_,_,_,rfl,aeV nm,fun _ _=>rfl,fun w2 _=>abz nm w2⟩
theorem ae1(C:List Step->lU)(z:Nat):∀(l:bY) (x:lU),sumW x<=z->(∀c∈l,sumW (C c)<=z)->sumW (lsW C x l)<=z
 |[],_,h,_=>h
 |c::r,x,h,hl=>ae1 C z r _ (by split;exact hl c Ab;exact h) fun d hd=>hl d (by simp[hd])
theorem Zv:∀(l:bY) (c:List Step),c∈l->zC c<=zL l
 |d::r,c,h=>by
  conv=>rhs;unfold zL
  rcases List.mem_cons.1 h with rfl|h
  .omega
  .have:=Zv r c h;omega
theorem Zw{P:Simple->lU}:∀(l:List Simple) (x:lU),(∀s∈l,sumW (P s)<=zS s)->sumW (Uw P x l)<=sumW x+zA l
 |[],x,_=>by unfold zA;exact Nat.le_refl _
 |s::r,x,h=>by have h1:=h s Ab;have h2:=Zw r (Bg x (P s)) fun t ht=>h t (by simp[ht]);rw[sum_add]at h2;unfold zA;show sumW (Uw P (Bg x (P s)) r)<=_;omega
theorem PO{P:Simple->lU}(h:∀s,sumW (P s)<=zS s):∀(l:List Step) (x:lU),sumW (GR P x l)<=sumW x+zC l
 |[],x=>by unfold zC;exact Nat.le_refl _
 |(b,all)::r,x=>by
  have h1:=Zw all x fun s _=>h s;have h2:=PO h r (Uw P x all);conv=>rhs;unfold zC
  unfold zT;show sumW (GR P (Uw P x all) r)<=_;omega
theorem Uz(L:bY->lU)(hL:∀l,sumW (L l)<=zL l):∀s,sumW (Ux L s)<=zS s:=by
 rintro ⟨k,nm,how,v,l,pl⟩;have h1:=hL l;have h2:=ag9 k nm;have e:sumW ((0,1,0):lU)=1:=rfl;rw[Uy];have hz:zS (.mk k nm how v l pl)=4*nm.size+4*v.size+how.size+120+zL l:=by conv=>lhs;unfold zS
 rw[hz];unfold Zu;repeat' split
 all_goals omega
theorem aiA:∀n s,sumW (wA n s)<=zS s
 |0,s=>Uz _ (fun _=>Nat.zero_le _) s
 |n+1,s=>Uz _ (fun l=>ae1 _ _ l _ (Nat.zero_le _) fun c hc=>by have h1:=PO (aiA n) c (0,0,0);have h2:=Zv l c hc;have e:sumW ((0,0,0):lU)=0:=rfl;omega) s
theorem aiB:∀(l:List Simple) (s:Simple),s∈l->zS s<=zA l
 |t::r,s,h=>by
  conv=>rhs;unfold zA
  rcases List.mem_cons.1 h with rfl|h
  .omega
  .have:=aiB r s h;omega
theorem aiC:∀(c:List Step) (st:Step),st∈c->∀s∈st.2,zS s<=zC c
 |(b,all)::r,st,h,s,hs=>by
  conv=>rhs;unfold zC
  unfold zT;rcases List.mem_cons.1 h with rfl|h
  .have:=aiB all s hs;omega
  .have:=aiC r st h s hs;omega
theorem ae2(n B:Nat)(cx:List Step)(v:Av)(w:WD)(h:SG (fO (aQ n)) 2 (fun b=>b<B) w v cx)(hB:B<=w.heap.size)(hr:PN n B w (wA n))(hz:zC cx<=1000000):
  Calls prog 155 #[v] w fun ex w'=>ex=.returned (Pq (GR (wA n) (0,0,0) cx))/\Below w.heap.size w w':=
 akj n B (wA n) cx v w h hB hr (fun st hst s hs=>Nat.le_trans (aiC cx st hst s hs) hz) (by have h1:=PO (aiA n) cx (0,0,0);have e:sumW ((0,0,0):lU)=0:=rfl;omega)
theorem UA(B:Nat):∀(n:Nat) (w:WD),B<=w.heap.size->PN n B w (wA n)
 |0,w,hB=>by
  rintro ⟨k,nm,how,v,l,pl⟩ hz w' hb pv hx;obtain⟨rfl,la,lc,e⟩:=hx;obtain rfl:pv=fE k nm how v (.slice la 0 lc) pl:=by simpa using e
  refine Kw (fun _=>(0,0,0)) k nm how v [] pl la 0 lc w' ?_;intro w2 hb2;exact aiz 0 B (fun _=>(0,0,0)) [] _ w2 ⟨la,lc,rfl,⟨Nat.zero_le _,by decide⟩,fun hn=>absurd rfl hn⟩ (Nat.le_trans hB (Nat.le_trans hb.size hb2.size)) (fun c hc=>by cases hc)
 |n+1,w,hB=>by
  rintro ⟨k,nm,how,v,l,pl⟩ hz w' hb pv hx;obtain⟨lv,e,hsg⟩:=hx;obtain rfl:pv=fE k nm how v lv pl:=by simpa using e
  obtain⟨la,lc,rfl⟩:=hsg.form;refine Kw (fun l=>lsW (GR (wA n) (0,0,0)) (0,0,0) l) k nm how v l pl la l.length lc w' ?_;intro w2 hb2;have akg:=hsg.below (One.fair (fO.fair (aQ.fair n))) hb2 (Nat.le_trans hB hb.size);have hB2:=Nat.le_trans hB (Nat.le_trans hb.size hb2.size);refine aiz n B (GR (wA n) (0,0,0)) l _ w2 akg hB2 ?_;intro c hc cv w3 hb3 hcv;have hB3:=Nat.le_trans hB2 hb3.size;have h1:=Zv l c hc;have hzs:zS (.mk k nm how v l pl)=4*nm.size+4*v.size+how.size+120+zL l:=by conv=>lhs;unfold zS
  rw[hzs]at hz;exact ae2 n B c cv w3 hcv hB3 (UA B n w3 hB3) oo
def Ky(F:lI)(p:aI)(n:Nat)(cx:List Step):Zd:=(Kv p (Me F p n) 0 cx,GR (wA n) (0,0,0) cx)
theorem XQ(F:lI)(p:aI)(n:Nat){l:bY}{i:Nat}(h:i<l.length):(l.take (i+1)).map (Ky F p n)=(l.take i).map (Ky F p n)++[Ky F p n l[i]]:=by rw[List.take_succ_eq_append_getElem h,List.map_append];rfl
theorem abB(F:lI)(f B:Nat)(l:bY)(v:Av)(p:aI)(a:Option Addr)(cap:Nat)(w:WD)(h:SG (AA (aQ f)) 1 (fun b=>b<B) w v l)(hp:jZ B w p a cap)(hfit:pJ F w)(hk:zL l<=1000000):
  Calls prog 92 #[v,.agg #[.slice a p.length cap]] w fun ex w'=>(∃u,ex=.returned u/\SG DJ 4 (oD w.heap.size w') w' u (l.map (Ky F p f)))/\Below w.heap.size w w':=by
 have hl:=h.len;have hlen:=hp.len;have hBw:=hp.lt;have B0:Hid (Below w.heap.size w (w.alloc (.cells #[.slice a p.length cap] 66))):=Ax.alloc nl _;have V0:Hid (bU (w.alloc (.cells #[.slice a p.length cap] 66)) w.heap.size (.slice a p.length cap) 66):=bU.new _ _ _;have wX:Hid (jZ B (w.alloc (.cells #[.slice a p.length cap] 66)) p a cap):=hp.alloc _;have hF:Hid (Fair (AA (aQ f))):=One.fair (fO.fair (aQ.fair f));have HS:=hid (h.below hF.o B0.o hBw);have HK:Hid (zL l<=1000000):=hk;have HFT:Hid (pJ F (w.alloc (.cells #[.slice a p.length cap] 66))):=hfit.below B0.o;obtain⟨ca,cc,rfl⟩:=h.form;clear h hp hk hfit;obtain⟨iT,hiT⟩:=aee
 have HI:Hid (prog.info? 248=some iT/\iT.zero=some (.agg #[.int .u64 0,.int .i64 0,.int .i64 0,.int .i64 0])/\iT.size=4/\iT.bytes=32):=hiT;clear hiT;go_in;go_wp2_with fail;generalize hw0:w.alloc (.cells #[.slice a p.length cap] 66)=w0 at *;have HS0:Hid (w0.heap.size=w.heap.size+1):=by show _=_;rw[<-hw0];simp
 clear hw0;obtain⟨pb,Hpb⟩:=Nm w.heap.size;have hpb:=Hpb.o;have hp0:pb<w0.heap.size:=by have:=HS0.o;omega
 rw[hpb]at V0;rw[hpb];go_loopg[5,10] l.length (fun gg v5 v10 wr=>∃(u:Av) (i:Nat),u=v5/\v10=.int .i64 (i:Int)/\i+gg=l.length/\Aside (MG DJ 4 248 w0.heap.size wr u ((l.take i).map (Ky F p f))/\Below w0.heap.size w0 wr));case atStart=>exact⟨_,0,rfl,rfl,oo,MG.nil _ _ _ _ _,Ax⟩
 case round=>
  obtain⟨go,hgo⟩:∃go,go=gk:=⟨_,rfl⟩;obtain⟨u,i,rfl,rfl,hi,hA⟩:=hrel;have HC:Hid (MG DJ 4 248 w0.heap.size wr u ((l.take i).map (Ky F p f))/\Below w0.heap.size w0 wr):=hA.o;clear hA;have hsr:=HC.o.2.size;have hmn:((l.take i).map (Ky F p f)).length=i:=by rw[List.length_map,List.length_take];omega
  by_cases hlt:i<l.length
  .have h1:(i:Int)<(l.length:Int):=oo;obtain⟨g,o,rfl,hL,hcap⟩:=(HS.o.below hF.o HC.o.2 oo).here (by rintro rfl;simp at hlt);obtain⟨cv,d0,hcv,hgB⟩:=hL.cxq (i:=i) hlt;have HKC:=Nat.le_trans (Zv l l[i] (List.getElem_mem hlt)) HK.o;have HM:Hid ((l.take (i+1)).map (Ky F p f)=(l.take i).map (Ky F p f)++[Ky F p f l[i]]):=XQ F p f hlt;generalize l[i]=cx at *;have wH:=hid hcv;have HKX:Hid (zC cx<=1000000):=HKC;have HRO:=hid (Uu F B p a cap f wr (wX.o.below HC.o.2 wX.o.lt) (HFT.o.below HC.o.2));obtain⟨xa,xc,rfl⟩:=hcv.form;clear hcv hL HKC;have V2:Hid (bU wr pb (.slice a p.length cap) 66):=V0.o.below HC.o.2 oo;have c0:=V2.o.c;have P2:=hid (wX.o.below HC.o.2 wX.o.lt);go_wp2_with fail;refine(aeQ f B (Me F p f) cx _ p a cap _ wH.o P2.o (aeR F p hlen.2 f) HRO.o).mono ?_
   obtain⟨s1,Az⟩:=Nm (Kv p (Me F p f) 0 cx);rw[Az.o];rintro e w3 ⟨rfl,hb3⟩;have X3:=hid (HC.o.2.trans (hb3.mono hsr));have M3:=hid (HC.o.1.below DJ.fair hb3);have C3:=hid (wH.o.below (fO.fair (aQ.fair f)) hb3 P2.o.lt);clear hb3 c0 V2 P2 wH d0;have hs3:=X3.o.size;go_wp2_with fail;refine(ae2 f B cx _ _ C3.o oo (UA B f w3 oo) HKX.o).mono ?_;obtain⟨t,Ht⟩:=Nm (GR (wA f) (0,0,0) cx);rw[Ht.o];rintro e w4 ⟨rfl,hb4⟩;unfold Pq DC;have X4:=hid (X3.o.trans (hb4.mono hs3));have M4:=hid (M3.o.below DJ.fair hb4);clear hb4 C3 M3;have hs4:=X4.o.size
   obtain⟨cs,hown,pX⟩:=(M4.o.alloc DJ.fair (.cells #[.int .u64 (s1:Int),.int .i64 (t.1:Int),.int .i64 (t.2.1:Int),.int .i64 (t.2.2:Int)] 248));have HO:Hid ((w4.alloc (.cells #[.int .u64 (s1:Int),.int .i64 (t.1:Int),.int .i64 (t.2.1:Int),.int .i64 (t.2.2:Int)] 248)).ownsRow w0.heap.size 248 4 u i cs):=by have h:=hown;rw[hmn]at h;exact h
   have Wx:=hid pX;clear hown pX;go_wp2_with(at_builtin;go_must(refine wpList_append_own_at _ rfl _ _ 172 rfl w0.heap.size 248 iT (.agg #[.int .u64 0,.int .i64 0,.int .i64 0,.int .i64 0]) 4 32 Tryz.underlying172 HI.o.1 HI.o.2.1 HI.o.2.2.1 HI.o.2.2.2 rfl oo u i cs rfl HO.o ⟨w4.heap.size,0,none⟩ 1 1 [.int .u64 (s1:Int),.int .i64 (t.1:Int),.int .i64 (t.2.1:Int),.int .i64 (t.2.2:Int)] rfl rfl (Vu _ _ _ _ _ _) (by simp[Value.oneCell']) As oo An ?_));intro v5 w5 hown5 hgr5 _ TV;have hlo:∀rr,u.ownBlock=some rr->w0.heap.size<=rr:=fun rr hr=>(HO.o.lt rr hr).1;have hb5:Below w0.heap.size w4 w5:=(Ax.alloc oo _).grown hgr5 An hlo
   have yE:w5.ownsRow w0.heap.size 248 4 v5 (((l.take i).map (Ky F p f)).length+1) (cs++[.int .u64 (s1:Int),.int .i64 (t.1:Int),.int .i64 (t.2.1:Int),.int .i64 (t.2.2:Int)]):=by rw[hmn];exact hown5
   have M5:Hid (MG DJ 4 248 w0.heap.size w5 v5 ((l.take i).map (Ky F p f)++[(s1,t)])):=MG.snoc DJ.fair Wx.o (show DJ _ _ (s1,t) _ from rfl) yE hgr5 (by simpa using TV);have X5:=hid (X4.o.trans hb5);have HE:Hid (MG DJ 4 248 w0.heap.size w5 v5 ((l.take (i+1)).map (Ky F p f))/\Below w0.heap.size w0 w5):=by refine⟨?_,X5.o⟩;rw[HM.o];unfold Ky at *;rw[Az.o,Ht.o];exact M5.o
   clear hown5 yE hgr5 TV hb5 hlo M5 X5;go_wp2_with fail;go_roundg(go-1);case measure=>omega
   case rel=>exact⟨v5,i+1,rfl,by congr 1,oo,HE.o⟩
  .have h1:(l.length:Int)<=(i:Int):=oo;have HE:Hid (SG DJ 4 (oD w.heap.size wr) wr u (l.map (Ky F p f))):=by
    have h:=(HC.o.1.sl DJ.fair DJ.sized oo).keep DJ.fair (ajS (show w.heap.size<=w0.heap.size by omega)) fun _ _=>rfl;rw[List.take_of_length_le (show l.length<=i by omega)]at h;exact h
   have BE:=hid (B0.o.trans (HC.o.2.mono oo));go_wp2_with fail;go_ret;exact⟨⟨_,rfl,HE.o⟩,BE.o⟩
def yJ(F:lI)(p:aI)(r:Rule)(i:Nat)(g:BY->Option jS):BY->Option jS:=
 match lM (depth r.head) r.head with
 |none=>g
 |some ss=>if r.at_.getD aA=aA then qg (ss.map (Ky F p (depth r.head))) (decls (r.body.getD [])) i g else g
theorem akl(F:lI)(B:Nat)(p:aI)(a:Option Addr)(cap:Nat)(wa:Option Addr)(wc:Nat)(bs:List Nat)(kb:Nat)(r:Rule)(ha:Option Addr)(hc:Nat)(ba:Option Addr)(bc:Nat)(bd:List Nd)(G:Nat->BY->Option jS)(w:WD)
  (h:aa7 B w p a cap wa wc bs) (hG:mF B w bs G) (hh:Sl (fun b=>b<B) w (.slice ha r.head.length hc) r.head) (hb:Sl (fun b=>b<B) w (.slice ba bd.length bc) bd) (fb:Bool) (hbd:r.at_.getD aA=aA->r.body=some bd)
  (hok:∀ss,lM (depth r.head) r.head=some ss->zL ss<=1000000) (hR:vK (depth r.head)) (hfit:pJ F w):
  Calls prog 62 #[.agg #[.slice a p.length cap,.slice wa bs.length wc,.map (some kb)],.agg #[.string (r.at_.getD aA),.slice ha r.head.length hc,.bool fb,.slice ba bd.length bc]] w
   fun ex w'=>ex=.returned (.tuple #[])/\mF B w' bs (fun i=>yJ F p r i (G i))/\dJ bs w w':=by
 have hBw:=h.pg.lt;have hlen:=h.pg.len;obtain⟨at_,Gx⟩:=Nm (r.at_.getD aA);obtain⟨hd,YG⟩:=Nm r.head;rw[Gx.o];rw[YG.o]at hh hok hR;have HRD:Hid (vK (depth hd)):=hR;have HFT:Hid (pJ F w):=hfit;clear hR hfit;rw[YG.o];have HLF:Hid (∀i,yJ F p r i (G i)=(match lM (depth hd) hd with|none=>G i|some ss=>if at_=aA then qg (ss.map (Ky F p (depth hd))) (decls bd) i (G i) else G i)):=by
  intro i;unfold yJ;rw[Gx.o,YG.o];cases lM (depth hd) hd with
  |none=>rfl
  |some ss=>
   by_cases e:at_=aA
   .simp only;rw[if_pos e,if_pos e,hbd (Gx.o.trans e)];rfl
   .simp only;rw[if_neg e,if_neg e]
 have hb0:Below w.heap.size w ((w.alloc (.cells #[.slice a p.length cap,.slice wa bs.length wc,.map (some kb)] 77)).alloc (.cells #[.string at_,.slice ha hd.length hc,.bool fb,.slice ba bd.length bc] 130)):=(Ax.alloc nl _).alloc Ab _;have B0:=hid hb0;have K0:Hid (K3 ((w.alloc (.cells #[.slice a p.length cap,.slice wa bs.length wc,.map (some kb)] 77)).alloc (.cells #[.string at_,.slice ha hd.length hc,.bool fb,.slice ba bd.length bc] 130)) w.heap.size (.slice a p.length cap) (.slice wa bs.length wc) (.map (some kb))):=(K3.new w _ _ _).below (Ax.alloc nl _);have R0:Hid (Q4 130 ((w.alloc (.cells #[.slice a p.length cap,.slice wa bs.length wc,.map (some kb)] 77)).alloc (.cells #[.string at_,.slice ha hd.length hc,.bool fb,.slice ba bd.length bc] 130)) (w.heap.size+1) (.string at_) (.slice ha hd.length hc) (.bool fb) (.slice ba bd.length bc)):=by have:=heap_alloc_new (w.alloc (.cells #[.slice a p.length cap,.slice wa bs.length wc,.map (some kb)] 77)) (.cells #[.string at_,.slice ha hd.length hc,.bool fb,.slice ba bd.length bc] 130);show _=_;simpa using this
 have HH:=hid (hh.below hb0 hBw);have VT:=hid hb;have HC:=hid h;have HG:Hid (mF B w bs G):=hG;have VJ:Hid (∀ss,lM (depth hd) hd=some ss->zL ss<=1000000):=hok;clear h hG hh hb hok hb0 hbd;go_in;go_upto_region 1 with fail
 generalize(w.alloc (.cells #[.slice a p.length cap,.slice wa bs.length wc,.map (some kb)] 77)).alloc (.cells #[.string at_,.slice ha hd.length hc,.bool fb,.slice ba bd.length bc] 130)=w0 at *;obtain⟨cb,Hcb⟩:=Nm w.heap.size;rw[Hcb.o]at K0 R0;rw[Hcb.o];obtain⟨k0,k1,k2⟩:=K0.o.cs;obtain⟨r0,r1,r2,r3⟩:=R0.o.cs;have hs0:=B0.o.size;go_wp2_with fail;refine(HRD.o B hd _ _ nl HH.o oo).mono ?_;rintro ex w1 ⟨hrd,hb1⟩;have B1:=hid (B0.o.trans (hb1.mono hs0));have K1:Hid (K3 w1 cb (.slice a p.length cap) (.slice wa bs.length wc) (.map (some kb))):=K0.o.below hb1;have R1:Hid (Q4 130 w1 (cb+1) (.string at_) (.slice ha hd.length hc) (.bool fb) (.slice ba bd.length bc)):=R0.o.below hb1;have hs1:=B1.o.size;clear hb1 k0 k1 k2 r0 r1 r2 r3 K0 R0 HH;obtain⟨k0,k1,k2⟩:=K1.o.cs;obtain⟨r0,r1,r2,r3⟩:=R1.o.cs;unfold rdP at hrd
 cases hsel:lM (depth hd) hd with
 |none=>
  rw[hsel]at hrd;have WJ:ex=_:=hrd;subst WJ;have HE:Hid (mF B w1 bs (fun i=>yJ F p r i (G i))):=by
   have:(fun i=>yJ F p r i (G i))=G:=funext fun i=>by rw[HLF.o i,hsel]
   rw[this];exact HG.o.below B1.o hBw
  have HT:Hid (dJ bs w w1):=dJ.of_below B1.o;clear hsel;go_wp2_with fail;refine bodyPost_ret (v:=.tuple #[]) (by simp[results,Tryz.results62,go_sem]) rfl ?_;exact⟨rfl,HE.o,HT.o⟩
 |some ss=>
  rw[hsel]at hrd;obtain⟨sv,rfl,hsv⟩:=hrd;have sS:=hid hsv;obtain⟨sa,sc,rfl⟩:=hsv.form;clear hsv;by_cases hat:at_=aA
  .have anC:(at_.toList==[])=true:=by rw[ay];exact decide_eq_true hat
   have al0:Hid (∀i,yJ F p r i (G i)=qg (ss.map (Ky F p (depth hd))) (decls bd) i (G i)):=fun i=>by rw[HLF.o i,hsel];exact if_pos hat
   have HOS:Hid (zL ss<=1000000):=VJ.o ss hsel;clear hsel HLF VJ hat;have hF:Hid (Fair (AA (aQ (depth hd)))):=One.fair (fO.fair (aQ.fair (depth hd)));have P1:=hid ((HC.o.pg.below B1.o hBw).mono oo nl);have SS1:Hid (SG (AA (aQ (depth hd))) 1 (fun b=>b<w1.heap.size) w1 (.slice sa ss.length sc) ss):=sS.o.keep hF.o (fun _ hg=>hg.2) fun _ _=>rfl;go_wp2_with fail;refine(abB F (depth hd) w1.heap.size ss _ p a cap w1 SS1.o P1.o (HFT.o.below B1.o) HOS.o).mono ?_;rintro ex w2 ⟨⟨cv,rfl,hcv⟩,hb2⟩;have B2:=hid (B1.o.trans (hb2.mono hs1));have K2:Hid (K3 w2 cb (.slice a p.length cap) (.slice wa bs.length wc) (.map (some kb))):=K1.o.below hb2;have R2:Hid (Q4 130 w2 (cb+1) (.string at_) (.slice ha hd.length hc) (.bool fb) (.slice ba bd.length bc)):=R1.o.below hb2;have hs2:=B2.o.size;have anD:=hb2.size
   have HCL:=hid hcv;obtain⟨ka,kc,rfl⟩:=hcv.form;have al1:=hid (VT.o.below B2.o hBw);clear hb2 hcv k0 k1 k2 r0 r1 r2 r3 K1 R1 SS1 P1 sS;obtain⟨k0,k1,k2⟩:=K2.o.cs;obtain⟨r0,r1,r2,r3⟩:=R2.o.cs;obtain⟨cl,Hcl⟩:=Nm (ss.map (Ky F p (depth hd)));have HSC:Hid (∀x∈cl,x.1<18446744073709551616):=by show ∀x∈cl,_;rw[<-Hcl.o];intro x hx;obtain⟨cx,_,rfl⟩:=List.mem_map.1 hx;exact PK p _ hlen.2 cx 0 Al
   rw[Hcl.o]at HCL al0;rw[Hcl.o];go_wp2_with fail;refine(JW B bd _ w2 al1.o oo).mono ?_;rintro ex w3 ⟨dv,rfl,⟨xs,hxs,hdv,hdo⟩,hb3⟩;have B3:=hid (B2.o.trans (hb3.mono hs2));have K4:Hid (K3 w3 cb (.slice a p.length cap) (.slice wa bs.length wc) (.map (some kb))):=K2.o.below hb3;have hs3:=B3.o.size;have anE:=hb3.size;have HXS:Hid (xs.map Prod.fst=decls bd):=hxs;have HDV:=hid hdv;have HDO:Hid (∀x∈xs,ahc B w3 x):=hdo;have CL3:Hid (SG DJ 4 (oD w1.heap.size w2) w3 (.slice ka cl.length kc) cl):=HCL.o.keep DJ.fair (fun _ hg=>hg) fun g hg=>hb3.block g hg.2;have hxl:=hdv.len;obtain⟨da,dc,rfl⟩:=hdv.form;have G3:Hid (mF B w3 bs G):=HG.o.below B3.o hBw;clear hb3 hdv hdo hxs k0 k1 k2 r0 r1 r2 r3 K2 R2 HCL al1;obtain⟨k0,k1,k2⟩:=K4.o.cs;obtain⟨rb,ro,hwa,hwin⟩:=HC.o.win;have hnd:=HC.o.nd
   have hlo:=HC.o.lo;have hbl:=HC.o.len;have anc:=HC.o.cap;have al2:bs.length<=30:=oo;have al3:∀b∈bs,b<w.heap.size:=fun b hb=>by obtain⟨i,hi,rfl⟩:=List.getElem_of_mem hb;exact(HG.o i hi).lt
   have hrb:rb<w.heap.size:=cell_lt (hwin 0 oo);have hrn:rb ∉ bs:=fun hm=>by obtain⟨i,hi,e⟩:=List.getElem_of_mem hm;obtain⟨m,hm2,_⟩:=HG.o i hi;exact wC hm2 (hwin 0 oo) e.symm
   have am3:Hid (∀wx,dJ bs w3 wx->∀i (h:i<bs.length),wx.cell? ⟨rb,ro+i,none⟩=some (.map (some bs[i]))):=fun wx ht i hi=>by rw[World.cell?_of_block (w:=w) (a:=⟨rb,_,none⟩) ((ht.block rb oo hrn).trans (B3.o.block rb hrb))];exact hwin i hi
   have HNB:Hid (∀g,w1.heap.size<=g->g ∉ bs):=fun g hg hm=>by have:=al3 g hm;omega
   have HND:Hid (bs.Nodup):=hnd;have HLO:Hid (∀b∈bs,B<=b):=hlo;have hb1:1<=bs.length:=oo;clear hwin hnd hlo al3 HC hbl;subst hwa;have anF:(bs.length:Int)<=30:=oo;go_wp2_with fail;go_loopg[37] bs.length (fun gg v37 wr=>∃(k:Nat),v37=.int .i64 (k:Int)/\k+gg=bs.length/\Aside (mF B wr bs (fun i=>if i<k then qg cl (decls bd) i (G i) else G i)/\dJ bs w3 wr));case atStart=>exact⟨0,rfl,oo,by simpa using G3.o,dJ.refl _ _⟩
   case round=>
    obtain⟨go,hgo⟩:∃go,go=gk:=⟨_,rfl⟩;obtain⟨k,rfl,hk,hA⟩:=hrel;have HR:Hid (mF B wr bs (fun i=>if i<k then qg cl (decls bd) i (G i) else G i)/\dJ bs w3 wr):=hA.o;clear hA;have hsr:=HR.o.2.size;by_cases hlt:k<bs.length
    .have h1:(k:Int)<(bs.length:Int):=oo;have d0:=am3.o wr HR.o.2 k hlt;have C4':Hid (SG DJ 4 (fun b=>b<wr.heap.size) wr (.slice ka cl.length kc) cl):=CL3.o.keep DJ.fair (fun g hg=>by have:=hg.2;omega) fun g hg=>HR.o.2.block g (by have:=hg.2;omega) (HNB.o g hg.1);go_wp2_with fail;refine(XD wr.heap.size cl _ k wr C4'.o nl oo HSC.o).mono ?_;obtain⟨t,Ht⟩:=Nm ((NC k (0,0,0) false cl).1);obtain⟨ok,Hok⟩:=Nm ((NC k (0,0,0) false cl).2);rw[Ht.o,Hok.o];rintro ex w4 ⟨rfl,hb4⟩;unfold Pq DC;have A5:Hid (W3n (w4.alloc (.cells #[.int .i64 (t.1:Int),.int .i64 (t.2.1:Int),.int .i64 (t.2.2:Int)] 177)) w4.heap.size t):=W3.new _ _ _ _;have X5:Hid (Below wr.heap.size wr (w4.alloc (.cells #[.int .i64 (t.1:Int),.int .i64 (t.2.1:Int),.int .i64 (t.2.2:Int)] 177))):=hb4.alloc hb4.size _;have hs4:=hb4.size;clear hb4 d0
     go_upto_region 9 with fail
     generalize w4.alloc (.cells #[.int .i64 (t.1:Int),.int .i64 (t.2.1:Int),.int .i64 (t.2.2:Int)] 177)=w5 at *;obtain⟨tb,Htb⟩:=Nm w4.heap.size;rw[Htb.o]at A5 hs4;rw[Htb.o];have T5:=hid (HR.o.2.trans (dJ.of_below X5.o));have A5l:=W3.lt A5.o;have G5:Hid (mF B w5 bs (fun i=>if i<k then qg cl (decls bd) i (G i) else G i)):=HR.o.1.below X5.o oo;have hs5:=X5.o.size;cases ok
     .have HE:Hid (mF B w5 bs (fun i=>if i<k+1 then qg cl (decls bd) i (G i) else G i)):=by
       have e:(fun i=>if i<k+1 then qg cl (decls bd) i (G i) else G i)=(fun i=>if i<k then qg cl (decls bd) i (G i) else G i):=funext fun i=>by
        by_cases e1:i=k
        .subst e1;rw[if_pos oo,if_neg oo];unfold qg;rw[Hok.o];rfl
        .by_cases e2:i<k
         .rw[if_pos e2,if_pos oo]
         .rw[if_neg e2,if_neg oo]
       rw[e];exact G5.o
      go_wp2_with fail;go_roundg(go-1);case measure=>omega
      case rel=>exact⟨k+1,by congr 1,oo,HE.o,T5.o⟩
     .have hi6:(xs.length:Int)<=2097152:=oo;go_wp2_with fail;go_loopg[52] xs.length (fun gg v52 wr=>∃(j:Nat),v52=.int .i64 (j:Int)/\j+gg=xs.length/\Aside (mF B wr bs (fun i=>if i=k then((xs.map Prod.fst).take j).foldl (Py t) (G k) else if i<k then qg cl (decls bd) i (G i) else G i)/\dJ bs w5 wr));case atStart=>
       refine⟨0,rfl,oo,?_,dJ.refl _ _⟩;have e:(fun i=>if i=k then((xs.map Prod.fst).take 0).foldl (Py t) (G k) else if i<k then qg cl (decls bd) i (G i) else G i)=(fun i=>if i<k then qg cl (decls bd) i (G i) else G i):=funext fun i=>by
        by_cases e1:i=k
        .subst e1;rw[if_pos rfl,if_neg oo];rfl
        .rw[if_neg e1]
       rw[e];exact G5.o
      case round=>
       obtain⟨gi,hgi⟩:∃gi,gi=gk:=⟨_,rfl⟩;obtain⟨j,rfl,hj,hA⟩:=hrel;have HJ:Hid (mF B wr bs (fun i=>if i=k then((xs.map Prod.fst).take j).foldl (Py t) (G k) else if i<k then qg cl (decls bd) i (G i) else G i)/\dJ bs w5 wr):=hA.o;clear hA;have hsj:=HJ.o.2.size;by_cases hlj:j<xs.length
       .have h2:(j:Int)<(xs.length:Int):=oo;have HTJ:=hid (T5.o.trans HJ.o.2);have HBJ:=hid (HTJ.o.below HLO.o oo);obtain⟨g6,o6,e6,hL6,hcap6⟩:=(HDV.o.keep (S':=fun _=>True) CDv.fair (fun _ _=>trivial) fun g hg=>HTJ.o.block g hg.2 (HNB.o g (by have:=hg.1;omega))).here (by rintro rfl;simp at hlj);obtain⟨⟨d0,d1,d2⟩,_⟩:=hL6.dvq (i:=j) hlj;obtain⟨⟨va,vc,hx2⟩,al4,hxp⟩:=HDO.o xs[j] (List.getElem_mem hlj);have HF:Hid (((xs.map Prod.fst).take (j+1)).foldl (Py t) (G k)=Py t (((xs.map Prod.fst).take j).foldl (Py t) (G k)) xs[j].1):=by
         have:=Bj (Py t) (G k) (xs.map Prod.fst) (j:=j) (by rw[List.length_map];exact hlj);rw[List.getElem_map]at this;exact this
        generalize xs[j]=x at *;obtain⟨d,dval⟩:=x;have am4:dval=.slice va d.val.length vc:=hx2;subst am4;have HSX:Hid (Sl (fun b=>b<B) wr (.slice va d.val.length vc) d.val):=Sl.below al4 HBJ.o nl;have hdp:d.prop.size<=4000000:=hxp;have d0':wr.cell? ⟨g6,o6+j*3,none⟩=some (.string d.prop):=d0;have d1':wr.cell? ⟨g6,o6+j*3+1,none⟩=some (.slice va d.val.length vc):=d1;have d2':wr.cell? ⟨g6,o6+j*3+2,none⟩=some (.bool d.imp):=d2;have HF':Hid (((xs.map Prod.fst).take (j+1)).foldl (Py t) (G k)=zG (((xs.map Prod.fst).take j).foldl (Py t) (G k)) ⟨d.prop,d.val,d.imp,t⟩):=HF.o;clear hL6 hx2 al4 hxp HF d0 d1 d2;have A6:Hid (E3 (wr.alloc (.cells #[.string d.prop,.slice va d.val.length vc,.bool d.imp] 181)) wr.heap.size (.string d.prop) (.slice va d.val.length vc) (.bool d.imp)):=E3.new _ _ _ _
        have X6:Hid (Below wr.heap.size wr (wr.alloc (.cells #[.string d.prop,.slice va d.val.length vc,.bool d.imp] 181))):=Ax.alloc nl _;subst e6;go_upto_region 13 with fail
        generalize wr.alloc (.cells #[.string d.prop,.slice va d.val.length vc,.bool d.imp] 181)=w6 at *;obtain⟨db,Hdb⟩:=Nm wr.heap.size;rw[Hdb.o]at A6;rw[Hdb.o];have hs6:=X6.o.size;have T6:=hid (HJ.o.2.trans (dJ.of_below X6.o));have A7:Hid (W3n w6 tb t):=by show W3 _ _ _ _ _;unfold W3;rw[T6.o.block tb A5l (HNB.o tb (by have:=Htb.o;omega))];exact A5.o
        have G6:Hid (mF B w6 bs (fun i=>if i=k then((xs.map Prod.fst).take j).foldl (Py t) (G k) else if i<k then qg cl (decls bd) i (G i) else G i)):=HJ.o.1.below X6.o oo;have S6:Hid (Sl (fun b=>b<B) w6 (.slice va d.val.length vc) d.val):=Sl.below HSX.o X6.o oo;have W6:Hid (pG B w6 bs[k] (((xs.map Prod.fst).take j).foldl (Py t) (G k))):=by have h3:=G6.o k hlt;have h3':pG B w6 bs[k] (if k=k then((xs.map Prod.fst).take j).foldl (Py t) (G k) else if k<k then qg cl (decls bd) k (G k) else G k):=h3;rwa[if_pos rfl]at h3'
        clear d0' d1' d2';obtain⟨a0,a1,a2⟩:=A6.o.cs;obtain⟨t0,t1,t2⟩:=W3.cs A7.o;go_wp2_with fail;refine(ahb B _ bs[k] ⟨d.prop,d.val,d.imp,t⟩ va vc w6 W6.o (HLO.o _ (List.getElem_mem hlt)) S6.o hdp).mono ?_;rintro ex w7 ⟨rfl,aiD,ht7⟩;have T7:=hid (T6.o.trans (dJ.ahe ht7 (List.getElem_mem hlt)));have HE:Hid (mF B w7 bs (fun i=>if i=k then((xs.map Prod.fst).take (j+1)).foldl (Py t) (G k) else if i<k then qg cl (decls bd) i (G i) else G i)):=by
         have h3:=G6.o.upd hlt ht7 aiD HND.o HLO.o;have e:(fun i=>if i=k then((xs.map Prod.fst).take (j+1)).foldl (Py t) (G k) else if i<k then qg cl (decls bd) i (G i) else G i)=(fun i=>if i=k then zG (((xs.map Prod.fst).take j).foldl (Py t) (G k)) ⟨d.prop,d.val,d.imp,t⟩ else(if i=k then((xs.map Prod.fst).take j).foldl (Py t) (G k) else if i<k then qg cl (decls bd) i (G i) else G i)):=funext fun i=>by
          by_cases e1:i=k
          .rw[if_pos e1,if_pos e1,HF'.o]
          .rw[if_neg e1,if_neg e1,if_neg e1]
         rw[e];exact h3
        clear aiD ht7 a0 a1 a2 t0 t1 t2;go_wp2_with fail;go_roundg(gi-1);case measure=>omega
        case rel=>exact⟨j+1,by congr 1,oo,HE.o,T7.o⟩
       .have h2:(xs.length:Int)<=(j:Int):=oo;have HE:Hid (mF B wr bs (fun i=>if i<k+1 then qg cl (decls bd) i (G i) else G i)):=by
         have e:(fun i=>if i<k+1 then qg cl (decls bd) i (G i) else G i)=(fun i=>if i=k then((xs.map Prod.fst).take j).foldl (Py t) (G k) else if i<k then qg cl (decls bd) i (G i) else G i):=funext fun i=>by
          by_cases e1:i=k
          .subst e1;rw[if_pos oo,if_pos rfl];unfold qg;rw[if_pos Hok.o,Ht.o,List.take_of_length_le (by rw[List.length_map];omega),HXS.o]
          .rw[if_neg e1];by_cases e2:i<k
           .rw[if_pos e2,if_pos oo]
           .rw[if_neg e2,if_neg oo]
         rw[e];exact HJ.o.1
        have T8:=hid (T5.o.trans HJ.o.2);go_wp2_with fail;go_roundg(go-1);case measure=>omega
        case rel=>exact⟨k+1,by congr 1,oo,HE.o,T8.o⟩
    .have h1:(bs.length:Int)<=(k:Int):=oo;have HE:Hid (mF B wr bs (fun i=>yJ F p r i (G i))):=by
      intro i hi;have h3:=HR.o.1 i hi;have h3':pG B wr bs[i] (if i<k then qg cl (decls bd) i (G i) else G i):=h3;rw[if_pos oo]at h3';show pG B wr bs[i] (yJ F p r i (G i));rw[al0.o i];exact h3'
     have HT:Hid (dJ bs w wr):=(dJ.of_below B3.o).trans HR.o.2;go_wp2_with fail;go_end0
     exact⟨rfl,HE.o,HT.o⟩
  .have HE:Hid (mF B w1 bs (fun i=>yJ F p r i (G i))):=by
    have:(fun i=>yJ F p r i (G i))=G:=funext fun i=>by rw[HLF.o i,hsel];exact if_neg hat
    rw[this];exact HG.o.below B1.o hBw
   have HT:Hid (dJ bs w w1):=dJ.of_below B1.o;have hne:(at_.toList==[])=false:=by rw[ay];exact decide_eq_false hat
   clear hsel;go_wp2_with fail;refine bodyPost_ret (v:=.tuple #[]) (by simp[results,Tryz.results62,go_sem]) rfl ?_;exact⟨rfl,HE.o,HT.o⟩
