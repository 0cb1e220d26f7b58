import Derived.Test.YtlliliddljkbfaaGreatDoorC25
import Derived.Test.YtlliliddljkbfaaGreatDoorC46
namespace Go.Proofs.YtlliliddljkbfaaGreatDoor
set_option maxHeartbeats 64000000
set_option maxRecDepth 100000
open Go.Proofs.Tryz (prog)
open Go.RowKit Sp
def oN(z:Bool)(s:ByteArray):Bool:=dU s&&!(z&&(pk s 0==45))
def okI(z:Bool)(zs:List ByteArray):Bool:=decide (zs.length<=20)&&zs.all (oN z)
def Ya(p:aS)(i:Nat):List ByteArray:=if i=0 then p.props else if i=1 then p.au else p.ats
def Gt(p:aS)(i:Nat):Bool:=if i=0 then okI true p.props&&(okI false p.au&&okI false p.ats) else if i=1 then okI false p.au&&okI false p.ats else if i=2 then okI false p.ats else true
theorem aao(p:aS){i:Nat}(h:i<3):Gt p i=(okI (i==0) (Ya p i)&&Gt p (i+1)):=by
 match i,h with
 |0,_=>rfl
 |1,_=>rfl
 |2,_=>show okI false p.ats=(okI false p.ats&&true);rw[Bool.and_true]
 |n+3,h=>omega
theorem acf:oN false=dU:=by funext s;unfold oN;simp
theorem aap(p:aS):kS p=(allB iM p.root&&(Gt p 0&&decide (p.root.size<=12))):=by
 have e:Gt p 0=(okI true p.props&&(okI false p.au&&okI false p.ats)):=rfl;rw[e];unfold kS okI;rw[acf];have e2:(fun s=>dU s&&!(pk s 0==45))=oN true:=by funext s;unfold oN;simp
 rw[e2];show(allB iM p.root&&decide (p.root.size<=12)&&_&&_&&_)=_;generalize allB iM p.root=a;generalize decide (p.root.size<=12)=b;generalize(decide (p.props.length<=20)&&p.props.all (oN true))=c;generalize(decide (p.au.length<=20)&&p.au.all dU)=d;generalize(decide (p.ats.length<=20)&&p.ats.all dU)=f;cases a<;>cases b<;>cases c<;>cases d<;>cases f<;>rfl
def L3(w:World)(b:Nat)(x0 x1 x2:Value):Prop:=w.heap[b]?=some (.cells #[x0,x1,x2] 22 (0,0))
theorem L3.new(w:World)(x0 x1 x2:Value):L3 (w.alloc (.cells #[x0,x1,x2] 22)) w.heap.size x0 x1 x2:=heap_alloc_new w _
theorem L3.at{B:Nat}{w:World}{b:Nat}{p:aS}{pv fv av:Value}(h:L3 w b pv fv av)(hP:iO B w p pv fv av){i:Nat}(hi:i<3):∃a cap,w.cell? ⟨b,i,none⟩=some (.slice a (Ya p i).length cap)/\SG iI 1 (fun b=>b<B) w (.slice a (Ya p i).length cap) (Ya p i):=by
 have h':w.heap[b]?=_:=h;obtain⟨pa,pc,rfl⟩:=hP.props.form;obtain⟨fa,fc,rfl⟩:=hP.au.form;obtain⟨aa,ac,rfl⟩:=hP.ats.form;match i,hi with
 |0,_=>exact⟨pa,pc,by unfold World.cell?;rw[h'];rfl,hP.props⟩
 |1,_=>exact⟨fa,fc,by unfold World.cell?;rw[h'];rfl,hP.au⟩
 |2,_=>exact⟨aa,ac,by unfold World.cell?;rw[h'];rfl,hP.ats⟩
 |n+3,h=>omega
theorem KF(B:Nat)(p:aS)(pv fv av:Value)(w:World)(h:iO B w p pv fv av)(hr:p.root.size<=4194304):
  Calls prog 25 #[dD p pv fv av] w fun e w'=>e=.returned (.bool (kS p))/\Below w.heap.size w w':=by
 obtain⟨pa,pc,rfl⟩:=h.props.form;obtain⟨fa,fc,rfl⟩:=h.au.form;obtain⟨aa,ac,rfl⟩:=h.ats.form;obtain⟨B0,Q0⟩:=Qa.nb p pa fa aa pc fc ac w;have HP:Hid (iO B (w.alloc (.cells #[.string p.root,.slice pa p.props.length pc,.slice fa p.au.length fc,.slice aa p.ats.length ac,.bool p.aO,.bool p.texts] 26)) p (.slice pa p.props.length pc) (.slice fa p.au.length fc) (.slice aa p.ats.length ac)):=h.below B0.o h.lt;have HE:Hid (kS p=(allB iM p.root&&(Gt p 0&&decide (p.root.size<=12)))):=aap p;clear h;unfold dD;go_in;go_upto_region 1 with fail
 generalize w.alloc (.cells #[.string p.root,.slice pa p.props.length pc,.slice fa p.au.length fc,.slice aa p.ats.length ac,.bool p.aO,.bool p.texts] 26)=w0 at *;obtain⟨gb,RF⟩:∃gb,Hid (w.heap.size=gb):=⟨_,hid rfl⟩;rw[RF.o]at Q0⊢;obtain⟨q0,q1,q2,q3,q4,q5⟩:=Q0.o.cs;go_wp2_with fail;go_loopg[3] p.root.size (fun gg v3 wr=>∃k:Nat,k+gg=p.root.size/\v3=.int .i64 (k:Int)/\Aside (oM iM p.root k=true/\wr=w0));case atStart=>exact⟨0,oo,rfl,rfl,rfl⟩
 case round=>
  obtain⟨k,hk,rfl,hA⟩:=hrel;have HA:Hid (oM iM p.root k=true):=hA.o.1;obtain rfl:=hA.o.2;clear hA;by_cases hlt:k<p.root.size
  .have h1:(k:Int)<(p.root.size:Int):=oo;have hix:=aV p.root k hlt;rw[qg hlt,xG hlt]at hix;obtain⟨c,Hc⟩:∃c,Hid (p.root[k]=c):=⟨_,hid rfl⟩;rw[Hc.o]at hix;have hc:=c.toNat_lt;have Wx:Hid (Rw (c.toNat:Int)=true->oM iM p.root (k+1)=true):=fun h=>by
    rw[yG iM hlt,HA.o,Hc.o,<-Rx,h];rfl
   have UU:Hid (Rw (c.toNat:Int)=false->kS p=false):=fun h=>by rw[HE.o,vk iM hlt (by rw[Hc.o,<-Rx];exact h)];rfl
   by_cases a1:(97:Int)<=(c.toNat:Int)
   .by_cases a2:(c.toNat:Int)<=122
    .have HV:Hid (oM iM p.root (k+1)=true):=Wx.o (by unfold Rw;rw[decide_eq_true a1,decide_eq_true a2];rfl);clear Wx UU;go_wp2_with fail;go_roundg(gk-1);case measure=>omega
     case rel=>exact⟨k+1,oo,by congr 1,HV.o,rfl⟩
    .have HV:Hid (kS p=false):=UU.o (by unfold Rw;rw[decide_eq_false a2];simp);have a2':(122:Int)<(c.toNat:Int):=oo;have a2d:decide ((c.toNat:Int)<=122)=false:=decide_eq_false a2;clear Wx UU a2;go_wp2_with fail;go_ret;exact⟨aI HV.o.symm,B0.o⟩
   .have a1':(c.toNat:Int)<97:=oo;have HV:Hid (kS p=false):=UU.o (by unfold Rw;rw[decide_eq_false a1];rfl);clear Wx UU a1;go_wp2_with fail;go_ret;exact⟨aI HV.o.symm,B0.o⟩
  .have h1:(p.root.size:Int)<=(k:Int):=oo;have HE1:Hid (kS p=(Gt p 0&&decide (p.root.size<=12))):=by
    show _=_;rw[HE.o,<-BG];have:k=p.root.size:=oo;rw[<-this,HA.o];rfl
   obtain⟨wa,rfl⟩:∃q,q=wr:=⟨_,rfl⟩;have X1:Hid (Below wa.heap.size wa (wa.alloc (.cells #[.slice pa p.props.length pc,.slice fa p.au.length fc,.slice aa p.ats.length ac] 22))):=(Below.refl _ _).alloc nl _;have Q1:Hid (L3 (wa.alloc (.cells #[.slice pa p.props.length pc,.slice fa p.au.length fc,.slice aa p.ats.length ac] 22)) wa.heap.size (.slice pa p.props.length pc) (.slice fa p.au.length fc) (.slice aa p.ats.length ac)):=L3.new _ _ _ _;have hsa:=B0.o.size;go_upto_region 7 with fail
   generalize wa.alloc (.cells #[.slice pa p.props.length pc,.slice fa p.au.length fc,.slice aa p.ats.length ac] 22)=w1 at *;have QX:Hid (Qa w1 gb (.string p.root) (.slice pa p.props.length pc) (.slice fa p.au.length fc) (.slice aa p.ats.length ac) (.bool p.aO) (.bool p.texts)):=Q0.o.below X1.o Q0.o.lt;have UR:Hid (iO B w1 p (.slice pa p.props.length pc) (.slice fa p.au.length fc) (.slice aa p.ats.length ac)):=HP.o.below X1.o HP.o.lt;have BF:Hid (Below w.heap.size w w1):=B0.o.trans (X1.o.mono hsa);obtain⟨lb,Hlb⟩:∃lb,Hid (wa.heap.size=lb):=⟨_,hid rfl⟩;rw[Hlb.o]at Q1⊢;clear q0 q1 q2 q3 q4 q5 h1 hk HA X1;go_wp2_with fail;go_loopg[5] 3 (fun gg v5 wr=>∃i:Nat,i+gg=3/\v5=.int .i64 (i:Int)/\Aside (kS p=(Gt p i&&decide (p.root.size<=12))/\wr=w1));case atStart=>exact⟨0,oo,rfl,HE1.o,rfl⟩
   case round=>
    obtain⟨i,hi,rfl,hA⟩:=hrel;have HI:Hid (kS p=(Gt p i&&decide (p.root.size<=12))):=hA.o.1;obtain rfl:=hA.o.2.symm;clear hA;by_cases hlt:i<3
    .have h1:(i:Int)<3:=oo;obtain⟨a,cap,hcell,ZX⟩:=Q1.o.at UR.o hlt;have HT:=aao p hlt;have hl:=ZX.len;generalize Ya p i=zs at *;have HS:Hid (SG iI 1 (fun b=>b<B) w1 (.slice a zs.length cap) zs):=ZX;have HT1:Hid (Gt p i=(okI (i==0) zs&&Gt p (i+1))):=HT;have hcell2:w1.cell? ⟨lb,0+i,none⟩=some (.slice a zs.length cap):=by rw[Nat.zero_add];exact hcell
     clear ZX HT;by_cases h20:zs.length<=20
     .have aeZ:(zs.length:Int)<=20:=oo;have HO:Hid (okI (i==0) zs=zs.all (oN (i==0))):=by show _=_;unfold okI;rw[decide_eq_true h20];rfl
      go_wp2_with fail;go_loopg[6] zs.length (fun gg v6 wr=>∃k:Nat,k+gg=zs.length/\v6=.int .i64 (k:Int)/\Aside (zs.all (oN (i==0))=(zs.drop k).all (oN (i==0))/\wr=w1));case atStart=>exact⟨0,oo,rfl,by simp,rfl⟩
      case round=>
       obtain⟨k,hk,rfl,hA⟩:=hrel;have HK:Hid (zs.all (oN (i==0))=(zs.drop k).all (oN (i==0))):=hA.o.1;obtain rfl:=hA.o.2.symm;clear hA;by_cases hltk:k<zs.length
       .have h2:(k:Int)<(zs.length:Int):=oo;obtain⟨g',o,rfl,hL,hcap⟩:=HS.o.here (by rintro rfl;simp at hltk);obtain⟨_,c0,hxs⟩:=hL.str (i:=k) hltk;have OM:Hid (zs.all (oN (i==0))=(oN (i==0) zs[k]&&(zs.drop (k+1)).all (oN (i==0)))):=by show _=_;rw[HK.o,List.drop_eq_getElem_cons hltk];rfl
        generalize zs[k]=x at *;have HN:=Zw x w1 hxs;obtain⟨zn,Hzn⟩:∃z,Hid (dU x=z):=⟨_,hid rfl⟩;rw[Hzn.o]at HN;have HN':Hid (Calls prog 56 #[.string x,.int .i64 30] w1 fun e w'=>e=.returned (.bool zn)/\w'=w1):=HN;have FF:Hid (oN (i==0) x=false->kS p=false):=fun h=>by rw[HI.o,HT1.o,HO.o,OM.o,h];rfl
        have FT:Hid (oN (i==0) x=true->zs.all (oN (i==0))=(zs.drop (k+1)).all (oN (i==0))):=fun h=>by rw[OM.o,h];rfl
        clear HN hL;go_wp2_with fail;refine HN'.o.mono ?_;rintro e wq ⟨rfl,hwq⟩;rw[hwq];clear hwq HN';cases zn
        .have HV:Hid (kS p=false):=FF.o (by unfold oN;rw[Hzn.o];rfl);go_wp2_with fail;go_ret;exact⟨aI HV.o.symm,BF.o⟩
        .have hx0:0<x.size:=by
          have:=Hzn.o;unfold dU at this;simp at this;omega
         have hix:∀w,(Instr.index 9 (.string x) (.int .i64 0)).run prog w=.ok (.int .u8 (pk x 0)) w:=fun w=>aV x 0 hx0 w;by_cases hi0:i=0
         .have hib:((i:Int)==0)=true:=beq_iff_eq.2 oo;have hin:(i==0)=true:=beq_iff_eq.2 hi0;cases hd:(pk x 0==45)
          .have HV:Hid (zs.all (oN (i==0))=(zs.drop (k+1)).all (oN (i==0))):=FT.o (by unfold oN;rw[Hzn.o,hin,hd];rfl);clear hi0 hin;go_wp2_with fail;go_roundg(zs.length-(k+1));case measure=>omega
           case rel=>exact⟨k+1,oo,by congr 1,HV.o,rfl⟩
          .have HV:Hid (kS p=false):=FF.o (by unfold oN;rw[Hzn.o,hin,hd];rfl);clear hi0 hin;go_wp2_with fail;go_ret;exact⟨aI HV.o.symm,BF.o⟩
         .have hib:((i:Int)==0)=false:=beq_eq_false_iff_ne.2 oo;have hin:(i==0)=false:=beq_eq_false_iff_ne.2 hi0;have HV:Hid (zs.all (oN (i==0))=(zs.drop (k+1)).all (oN (i==0))):=FT.o (by unfold oN;rw[Hzn.o,hin];rfl);clear hi0 hin hix;go_wp2_with fail;go_roundg(zs.length-(k+1));case measure=>omega
          case rel=>exact⟨k+1,oo,by congr 1,HV.o,rfl⟩
       .have h2:(zs.length:Int)<=(k:Int):=oo;have HV:Hid (kS p=(Gt p (i+1)&&decide (p.root.size<=12))):=by show _=_;rw[HI.o,HT1.o,HO.o,HK.o,List.drop_of_length_le oo];rfl
        go_wp2_with fail;go_roundg(3-(i+1));case measure=>omega
        case rel=>exact⟨i+1,oo,by congr 1,HV.o,rfl⟩
     .have aeZ:(20:Int)<(zs.length:Int):=oo;have HV:Hid (kS p=false):=by show _=_;rw[HI.o,HT1.o];unfold okI;rw[decide_eq_false h20];rfl
      go_wp2_with fail;go_ret;exact⟨aI HV.o.symm,BF.o⟩
    .have h1:(3:Int)<=(i:Int):=oo;obtain⟨q0,q1,q2,q3,q4,q5⟩:=QX.o.cs;have hi3:i=3:=oo;have HV:Hid (kS p=decide (p.root.size<=12)):=by show _=_;rw[HI.o,hi3];rfl
     clear hi3;go_wp2_with fail;go_ret;exact⟨aI (by rw[HV.o,Bool.eq_iff_iff];simp<;>omega),BF.o⟩
theorem Yb{p:aS}{pv fv av:Value}{rec:List Nd->ByteArray}{w:World}{sh:Bool}{l:List Nd}(hg:gL l)(hz:fB l<=4000000)(hsz:∀b,gL b->(rec b).size<=300*fB b)
  (hrec:∀b,gL b->depth b+1<=depth l->fB b<=4000000->tJ p pv fv av (rules false b) (rec b) w):∀r∈rules sh l,Dh p pv fv av rec w r:=by
 intro r hr;obtain⟨h1,h2,h3,h4⟩:=pF hg r hr;have h5:=kP r.head;have h6:fB r.head+fB (r.body.getD [])<=4000000:=by unfold rwz at h4;omega
 have hgb:gL (r.body.getD []):=by
  cases hb:r.body with
  |none=>show gL [];simp[gL]
  |some b=>exact(h3 b hb).1
 refine⟨NU _ h1,aaK h1,h2,oo,fun ss hs=>?_,fun _ d hd=>?_,fun _=>?_,?_,fun x b hx hb=>?_⟩
 .have:=KE _ _ _ hs;omega
 .exact aaK (KC hgb ((DZ (r.body.getD [])).2 d hd))
 .have:=(DZ (r.body.getD [])).1;omega
 .have:=hsz _ hgb;omega
 .have h7:=h3 b hb;rw[hb]at h6;exact hrec b h7.1 h7.2 (by show fB b<=_;have:fB r.head+fB b<=4000000:=h6;omega)
theorem N7(p:aS)(pv fv av:Value)(hds:ig)(hpr:allB iM p.root=true)(qx:p.root.size<=12):∀(f:Nat) (sh:Bool) (l:List Nd) (B:Nat) (w:World),iO B w p pv fv av->eX w->gL l->depth l<=f->fB l<=4000000->tJ p pv fv av (rules sh l) (oQ p f sh l) w
 |0,sh,l,B,w,hP,hI,hg,hd,hz=>by
  intro u w' hb hs;have hlt:=hP.lt;have hv:oQ p 0 sh l=aB ((rules sh l).map (kV p (fun _=>aA))):=by unfold oQ;rw[Gp,D6 hg]
  rw[hv];refine Di w'.heap.size p pv fv av (fun _=>aA) (rules sh l) u w' ((hP.below hb hlt).mono (by have:=hb.size;omega) nl) hs (hI.below hb nl) hds hpr qx ?_ ?_
  .exact Yb hg hz (fun b _=>by show 0<=_;omega) (fun b _ h _=>by omega)
  .have:=rU hds (rec:=fun _=>aA) qx (rules sh l) (fun r hr=>⟨(pF hg r hr).1,fun b _=>by show 0<=_;omega⟩);have:=(AU sh l).1;omega
 |f+1,sh,l,B,w,hP,hI,hg,hd,hz=>by
  intro u w' hb hs;have hlt:=hP.lt;have hv:oQ p (f+1) sh l=aB ((rules sh l).map (kV p (oQ p f false))):=by
   conv=>lhs;unfold oQ
   rw[Gp,D6 hg]
  rw[hv];have hP':iO w'.heap.size w' p pv fv av:=(hP.below hb hlt).mono (by have:=hb.size;omega) nl;have hI':=hI.below hb nl;refine Di w'.heap.size p pv fv av (oQ p f false) (rules sh l) u w' hP' hs hI' hds hpr qx ?_ ?_
  .exact Yb hg hz (fun b hgb=>rV hds p qx f false b hgb) (fun b hgb h hzb=>N7 p pv fv av hds hpr qx f false b _ w' hP' hI' hgb oo hzb)
  .have:=rU hds (rec:=oQ p f false) qx (rules sh l) (fun r hr=>⟨(pF hg r hr).1,fun b hb=>rV hds p qx f false b ((pF hg r hr).2.2.1 b hb).1⟩);have:=(AU sh l).1;omega
end Go.Proofs.YtlliliddljkbfaaGreatDoor
