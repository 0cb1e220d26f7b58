import Derived.Test.YtlliliddljkbfaaGreatDoorC26
import Derived.Test.YtlliliddljkbfaaGreatDoorC27
import Derived.Test.YtlliliddljkbfaaGreatDoorC29
import Derived.Test.YtlliliddljkbfaaGreatDoorC31
import Derived.Test.YtlliliddljkbfaaGreatDoorC34
import Derived.Test.YtlliliddljkbfaaGreatDoorC39
import Derived.Test.YtlliliddljkbfaaGreatDoorC46
namespace Go.Proofs.YtlliliddljkbfaaGreatDoor
set_option maxHeartbeats 64000000
set_option maxRecDepth 100000
open Go.Proofs.Tryz (prog)
open Go.RowKit Sp
theorem Gs(sep:ByteArray):∀(xs:List ByteArray) (x:ByteArray),gI sep (xs++[x])=if xs=[] then x else gI sep xs++(sep++x)
 |[],x=>rfl
 |[a],x=>by rw[if_neg (by simp)];rfl
 |a::b::r,x=>by rw[if_neg (by simp)];have ih:=Gs sep (b::r) x;rw[if_neg (by simp)]at ih;show a++(sep++gI sep (b::r++[x]))=(a++(sep++gI sep (b::r)))++(sep++x);rw[ih,ByteArray.append_assoc,ByteArray.append_assoc]
theorem QJ{sep:ByteArray}{xs:List ByteArray}(h:∀x∈xs,0<x.size)(hx:xs≠[]):0<(gI sep xs).size:=by
 match xs,hx with
 |[a],_=>exact h a (by simp)
 |a::b::r,_=>show 0<(a++(sep++gI sep (b::r))).size;rw[ByteArray.size_append];have:=h a (by simp);omega
theorem XU(d:Dec):0<(kD d).size:=by unfold kD;rw[ByteArray.size_append,ByteArray.size_append];have:(b1 58).size=1:=rfl;omega
def DN(p:aS)(ds:List Dec)(k:Nat):List ByteArray:=((ds.take k).filter (kK p)).map kD
theorem aal(p:aS)(ds:List Dec)(k:Nat):∀x∈DN p ds k,0<x.size:=fun x hx=>by obtain⟨d,_,rfl⟩:=List.mem_map.1 hx;exact XU d
theorem NY:∀(ds:List Dec) (k:Nat),F7 (ds.take k)<=F7 ds
 |[],k=>by simp
 |d::r,0=>by simp[F7]
 |d::r,k+1=>by have:=NY r k;simp only[List.take_succ_cons,F7];omega
theorem XV(p:aS)(ds:List Dec)(k:Nat):(gI (b1 59) (DN p ds k)).size<=F7 ds:=by
 have h1:=qw (b1 59) (DN p ds k);have h2:=AA p (ds.take k);have h3:=NY ds k;have e:(b1 59).size=1:=rfl;have e2:(DN p ds k).length=((ds.take k).filter (kK p)).length:=by unfold DN;simp
 rw[e,e2]at h1;unfold DN at h1⊢;omega
theorem lK{a:ByteArray}:(a.toList==[])=true↔a=aA:=by rw[aH];simp[aA]
def XW(p:aS)(pv fv av:Value)(rs:List Rule)(ro:ByteArray)(w:World):Prop:=∀(u:Value) (w':World),Below w.heap.size w w'->SG GI 5 (fun b=>b<w'.heap.size) w' u rs->Calls prog 27 #[u,dD p pv fv av] w' fun e w''=>e=.returned (.string ro)/\Below w'.heap.size w' w''
structure aam(p:aS)(pv fv av:Value)(rec:List Nd->ByteArray)(w:World)(r:Rule):Prop where
 okh:jG r.head
 body:r.at_=none->r.body.isSome=true
 wzh:fB r.head<=4000000
 sel:∀ss,zx r.head=some ss->zL ss<=274877906944
 dz:r.at_=none->F7 (decls (r.body.getD []))<=274877906944
 rok:∀x b,r.at_=some x->r.body=some b->XW p pv fv av (rules false b) (rec b) w
theorem LG.rr{S:Nat->Prop}{w:World}{l:List Rule}{g o i:Nat}(h:LG GI 5 S w l g o)(hi:i<l.length):S g/\∃av hv bv bl,(w.cell? ⟨g,o+i*5,none⟩=some (.string av)/\w.cell? ⟨g,o+i*5+1,none⟩=some (.bool l[i].at_.isSome)/\w.cell? ⟨g,o+i*5+2,none⟩=some hv/\w.cell? ⟨g,o+i*5+3,none⟩=some bv/\w.cell? ⟨g,o+i*5+4,none⟩=some (.bool l[i].body.isSome))/\Sl S w hv l[i].head/\Sl S w bv bl/\(∀b,l[i].body=some b->bl=b)/\(∀x,l[i].at_=some x->x=av)/\av.size<=4000000:=by obtain⟨h0,cs,⟨av,hv,bv,bl,rfl,hs,hp,hb,ha,hz⟩,hc⟩:=h.at l g o i hi;refine⟨h0,av,hv,bv,bl,⟨?_,hc 1 _ rfl,hc 2 _ rfl,hc 3 _ rfl,hc 4 _ rfl⟩,hs,hp,hb,ha,hz⟩;have:=hc 0 _ rfl;rwa[Nat.add_zero]at this
theorem Jo(B:Nat)(p:aS)(pv fv av:Value)(rec:List Nd->ByteArray)(rs:List Rule)(u:Value)(w:World)(hP:iO B w p pv fv av)(hs:SG GI 5 (fun b=>b<B) w u rs)(hI:eX w)(hds:ig)(qx:p.root.size<=12)(hok:∀r∈rs,aam p pv fv av rec w r)(hT:(cat (rs.map (gX p rec))).size<=549755813888):
  Calls prog 27 #[u,dD p pv fv av] w fun e w'=>e=.returned (.string (cat (rs.map (gX p rec))))/\Below w.heap.size w w':=by
 have hB:=hP.lt;have hrl:=hs.len;obtain⟨pa,pc,rfl⟩:=hP.props.form;obtain⟨fa,fc,rfl⟩:=hP.au.form;obtain⟨aa,ac,rfl⟩:=hP.ats.form;obtain⟨ua,uc,rfl⟩:=hs.form;have NQ:Hid (eX w):=hI;have Si:Hid ig:=hds;have tY:Hid (∀r∈rs,aam p (.slice pa p.props.length pc) (.slice fa p.au.length fc) (.slice aa p.ats.length ac) rec w r):=hok;obtain⟨T,HTe⟩:∃T,Hid (cat (rs.map (gX p rec))=T):=⟨_,hid rfl⟩;rw[HTe.o]at hT⊢;obtain⟨B0,Q0⟩:=Qa.nb p pa fa aa pc fc ac w;have Ot:Hid (iO B (w.alloc (.cells #[.string p.root,.slice pa p.props.length pc,.slice fa p.au.length fc,.slice aa p.ats.length ac,.bool p.aO,.bool p.texts] 26)) p (.slice pa p.props.length pc) (.slice fa p.au.length fc) (.slice aa p.ats.length ac)):=hP.below B0.o hB
 have Yy:Hid (SG GI 5 (fun b=>b<B) (w.alloc (.cells #[.string p.root,.slice pa p.props.length pc,.slice fa p.au.length fc,.slice aa p.ats.length ac,.bool p.aO,.bool p.texts] 26)) (.slice ua rs.length uc) rs):=hs.below GI.fair B0.o hB;clear hP hs hI hds hok;unfold dD;go_in;go_upto_region 1 with fail
 have hsz0:=B0.o.size;have hlt0:=Q0.o.lt;generalize w.alloc (.cells #[.string p.root,.slice pa p.props.length pc,.slice fa p.au.length fc,.slice aa p.ats.length ac,.bool p.aO,.bool p.texts] 26)=w0 at *;obtain⟨rb,mF⟩:∃rb,Hid (w.heap.size=rb):=⟨_,hid rfl⟩;rw[mF.o]at B0 Q0 hB hlt0 hsz0⊢;have hB0:B<=w0.heap.size:=oo;go_wp2_with fail;go_loopg[5,6] rs.length (fun gg v5 v6 wr=>∃(acc:ByteArray) (i:Nat),v5=.string acc/\v6=.int .i64 (i:Int)/\i+gg=rs.length/\Aside (T=acc++cat ((rs.drop i).map (gX p rec))/\Below w0.heap.size w0 wr));case atStart=>exact⟨⟨#[]⟩,0,rfl,rfl,oo,by show _=aA++_;rw[dP,<-HTe.o];rfl,Below.refl _ _⟩
 case round=>
  obtain⟨acc,i,rfl,rfl,hi,hA⟩:=hrel;obtain⟨wo,rfl⟩:∃q,q=wr:=⟨_,rfl⟩;have HC:Hid (T=acc++cat ((rs.drop i).map (gX p rec))/\Below w0.heap.size w0 wo):=hA.o;clear hA;have hsr:=HC.o.2.size;have hacc:acc.size<=549755813888:=by have:=hT;rw[HC.o.1,ByteArray.size_append]at this;omega
  by_cases hlt:i<rs.length
  .have h1:(i:Int)<(rs.length:Int):=oo;obtain⟨g,o,rfl,hL,hcap⟩:=(Yy.o.below GI.fair HC.o.2 hB0).here (by rintro rfl;simp at hlt);obtain⟨hgB,av,hv,bv,bl,hcells,hHd,hBd,hbe,hae,hav⟩:=hL.rr (i:=i) hlt;have adA:g<B:=hgB;obtain⟨r,hr⟩:∃r,r=rs[i]:=⟨_,rfl⟩;have HRK:Hid (aam p (.slice pa p.props.length pc) (.slice fa p.au.length fc) (.slice aa p.ats.length ac) rec w r):=by rw[hr];exact tY.o _ (List.getElem_mem _)
   have YB:Hid (T=acc++(gX p rec r++cat ((rs.drop (i+1)).map (gX p rec)))):=by show _=_;rw[HC.o.1,List.drop_eq_getElem_cons hlt,hr];rfl
   rw[<-hr]at hcells hHd hbe hae;obtain⟨ha,hc,rfl⟩:=hHd.form;obtain⟨ba,bc,rfl⟩:=hBd.form;have HHD:Hid (Sl (fun b=>b<B) wo (.slice ha r.head.length hc) r.head):=hHd;have Rj:Hid (Sl (fun b=>b<B) wo (.slice ba bl.length bc) bl):=hBd;have HBE:Hid (∀b,r.body=some b->bl=b):=hbe;have HAE:Hid (∀x,r.at_=some x->x=av):=hae;have nU:Hid (∀wx,Below wo.heap.size wo wx->(wx.cell? ⟨g,o+i*5,none⟩=some (.string av)/\wx.cell? ⟨g,o+i*5+1,none⟩=some (.bool r.at_.isSome)/\wx.cell? ⟨g,o+i*5+2,none⟩=some (.slice ha r.head.length hc)/\wx.cell? ⟨g,o+i*5+3,none⟩=some (.slice ba bl.length bc)/\wx.cell? ⟨g,o+i*5+4,none⟩=some (.bool r.body.isSome))):=fun wx hb=>by have e:∀x,wx.cell? ⟨g,x,none⟩=wo.cell? ⟨g,x,none⟩:=fun x=>hb.cell (p:=⟨g,x,none⟩) (show g<wo.heap.size by omega);rw[e,e,e,e,e];exact hcells
   have HQ:Hid (∀wx,Below wo.heap.size wo wx->Qa wx rb (.string p.root) (.slice pa p.props.length pc) (.slice fa p.au.length fc) (.slice aa p.ats.length ac) (.bool p.aO) (.bool p.texts)):=fun wx hb=>Q0.o.below (HC.o.2.trans (hb.mono hsr)) hlt0;have HPX:Hid (∀wx,Below wo.heap.size wo wx->iO B wx p (.slice pa p.props.length pc) (.slice fa p.au.length fc) (.slice aa p.ats.length ac)):=fun wx hb=>Ot.o.below (HC.o.2.trans (hb.mono hsr)) hB0;have HIX:Hid (∀wx,Below wo.heap.size wo wx->eX wx):=fun wx hb=>NQ.o.below (by rw[mF.o];exact B0.o.trans ((HC.o.2.trans (hb.mono hsr)).mono hsz0)) nl;have FIN:Hid (∀wx,Below wo.heap.size wo wx->Below w0.heap.size w0 wx):=fun wx hb=>HC.o.2.trans (hb.mono hsr);clear hL hgB hcells hHd hBd hbe hae hr;have X0:Hid (Below wo.heap.size wo wo):=Below.refl _ _;obtain⟨c0,c1,c2,c3,c4⟩:=nU.o _ X0.o;cases hat:r.at_ with
   |none=>
    have HAT:Hid (r.at_=none):=hat;obtain⟨b,hbs⟩:=Option.isSome_iff_exists.1 (HRK.o.body hat);obtain rfl:bl=b:=HBE.o b hbs;have HBS:Hid (r.body=some bl):=hbs;have hdz:F7 (decls bl)<=274877906944:=by have:=HRK.o.dz hat;rw[hbs]at this;exact this
    rw[hat]at c1;rw[hbs]at c4;clear hat hbs;go_wp2_with fail;refine(Nz (depth r.head) B r.head _ wo nl HHD.o oo).mono ?_;rintro e w2 ⟨hrd,hb2⟩;have X2:Hid (Below wo.heap.size wo w2):=hb2;clear hb2 c0 c1 c2 c3 c4;unfold Fb at hrd;cases hsel:ny (depth r.head) r.head with
    |none=>
     rw[hsel]at hrd;have ab6:e=_:=hrd;subst ab6;have NZ:Hid (gX p rec r=aA):=by show _=_;unfold gX Em zx;rw[HAT.o,HBS.o,hsel]
     clear hsel;have HE:Hid (T=acc++cat ((rs.drop (i+1)).map (gX p rec))):=by show _=_;rw[YB.o,NZ.o,dP]
     go_wp2_with fail;go_roundg(rs.length-(i+1));case measure=>omega
     case rel=>exact⟨acc,i+1,rfl,by congr 1,oo,HE.o,FIN.o _ X2.o⟩
    |some ss=>
     rw[hsel]at hrd;obtain⟨sv,rfl,hsg⟩:=hrd;obtain⟨sa,sc,rfl⟩:=hsg.form;have hsl:=hsg.len;have OX:Hid (SG (CX (bP (depth r.head))) 1 (fun b=>b<w2.heap.size) w2 (.slice sa ss.length sc) ss):=hsg.wide (One.fair (lX.fair (bP.fair _)));have HQK:Hid (uF ss):=DX _ _ _ HRK.o.okh hsel;have hzs:=HRK.o.sel ss hsel;have NZ:Hid (gX p rec r=if pX p bl=aA then aA else gU (nK p) ss++(b1 123++(pX p bl++b1 125))):=by show _=_;unfold gX Em zx;rw[HAT.o,HBS.o,hsel]
     have hls:=F9 Si.o p.root ss HQK.o qx hsl;have hs2:=X2.o.size;clear hsel hsg;obtain⟨c0,c1,c2,c3,c4⟩:=nU.o _ X2.o;go_wp2_with fail;refine(ZG B bl _ w2 (Rj.o.below X2.o oo) oo).mono ?_;obtain⟨ds,Hds⟩:∃ds,Hid (decls bl=ds):=⟨_,hid rfl⟩;rw[Hds.o]at hdz;rw[Hds.o];rintro e w3 ⟨dv,rfl,hdg,hb3⟩;have X3:Hid (Below wo.heap.size wo w3):=X2.o.trans (hb3.mono hs2);have aeT:Hid (SG (CX (bP (depth r.head))) 1 (fun b=>b<w2.heap.size) w3 (.slice sa ss.length sc) ss):=OX.o.below (One.fair (lX.fair (bP.fair _))) hb3 nl;obtain⟨da,dc,rfl⟩:=hdg.form;have hdl:=hdg.len;have HDG:Hid (SG nZ 3 (fun b=>b<w3.heap.size) w3 (.slice da ds.length dc) ds):=hdg;have hs3:=X3.o.size;have afH:w2.heap.size<=w3.heap.size:=hb3.size;clear hb3 hdg c0 c1 c2 c3 c4;go_wp2_with fail
     go_loopg[14,16] ds.length (fun gg v14 v16 wy=>∃(bd:ByteArray) (k:Nat),v14=.string bd/\v16=.int .i64 (k:Int)/\k+gg=ds.length/\bd.size<=274877906944/\Aside (bd=gI (b1 59) (DN p ds k)/\Below w3.heap.size w3 wy));case atStart=>exact⟨⟨#[]⟩,0,rfl,rfl,oo,by show 0<=_;omega,rfl,Below.refl _ _⟩
     case round=>
      obtain⟨wy,rfl⟩:∃q,q=wr:=⟨_,rfl⟩;obtain⟨bd,k,rfl,rfl,hk,aeU,hA⟩:=hrel;have HD:Hid (bd=gI (b1 59) (DN p ds k)/\Below w3.heap.size w3 wy):=hA.o;clear hA;have hsy:=HD.o.2.size;have XY:Hid (Below wo.heap.size wo wy):=X3.o.trans (HD.o.2.mono hs3);by_cases hltk:k<ds.length
      .have h2:(k:Int)<(ds.length:Int):=oo;as_aux_lemma=>
        obtain⟨g2,o2,rfl,hL2,hcap2⟩:=(HDG.o.below nZ.fair HD.o.2 nl).here (by rintro rfl;simp at hltk);obtain⟨hg2,vv,hd0,hd1,hd2,hdV,hdp⟩:=hL2.dec (i:=k) hltk;have afI:g2<w3.heap.size:=hg2;have aan:=Nat.le_trans (Qr ds k hltk) hdz;obtain⟨d,hd⟩:∃d,d=ds[k]:=⟨_,rfl⟩;have HTF:Hid (DN p ds (k+1)=DN p ds k++(if kK p d=true then [kD d] else [])):=by rw[hd];exact Df hltk
        have hnz:(gI (b1 59) (DN p ds (k+1))).size<=274877906944:=Nat.le_trans (XV p ds (k+1)) hdz;rw[<-hd]at hd0 hd2 hdV hdp aan;clear hd;obtain⟨va,vc,rfl⟩:=hdV.form;have hvl:=hdV.len;have HVV:Hid (Sl (fun b=>b<w3.heap.size) wy (.slice va d.val.length vc) d.val):=hdV;have qy:Hid (∀wx,Below wy.heap.size wy wx->(wx.cell? ⟨g2,o2+k*3,none⟩=some (.string d.prop)/\wx.cell? ⟨g2,o2+k*3+1,none⟩=some (.slice va d.val.length vc)/\wx.cell? ⟨g2,o2+k*3+2,none⟩=some (.bool d.imp))/\Qa wx rb (.string p.root) (.slice pa p.props.length pc) (.slice fa p.au.length fc) (.slice aa p.ats.length ac) (.bool p.aO) (.bool p.texts)):=fun wx hb=>by have e:∀x,wx.cell? ⟨g2,x,none⟩=wy.cell? ⟨g2,x,none⟩:=fun x=>hb.cell (p:=⟨g2,x,none⟩) (show g2<wy.heap.size by omega);rw[e,e,e];exact⟨⟨hd0,hd1,hd2⟩,HQ.o _ (XY.o.trans (hb.mono oo))⟩
        have hwd:fB d.val<=274877906944:=by unfold dz at aan;omega
        clear hL2 hg2 hdV hd0 hd1 hd2;obtain⟨zc,Hzc⟩:∃z,Hid (custom d.prop=z):=⟨_,hid rfl⟩;obtain⟨zi,Hzi⟩:∃z,Hid (p.props.contains d.prop=z):=⟨_,hid rfl⟩;obtain⟨zh,Hzh⟩:∃z,Hid (bV p d.val=z):=⟨_,hid rfl⟩;obtain⟨dk,Hdk⟩:∃z,Hid (kK p d=z):=⟨_,hid rfl⟩;have HDK:Hid (dk=((if zc=true then p.aO else zi)&&zh&&!d.val.isEmpty)):=by show _=_;rw[<-Hdk.o,<-Hzc.o,<-Hzi.o,<-Hzh.o];rfl
        rw[Hdk.o]at HTF;have CC:=WJ d.prop wy hdp;rw[Hzc.o]at CC;have CC':Hid (Calls prog 64 #[.string d.prop] wy fun e w'=>e=.returned (.bool zc)/\w'=wy):=CC;clear CC;obtain⟨⟨e0,e1,e2⟩,_⟩:=qy.o _ (Below.refl _ _);go_wp2_with fail;refine CC'.o.mono ?_;rintro e wq ⟨rfl,hwq⟩;rw[hwq];clear hwq CC' e0 e1 e2;have SY:Hid (Below wy.heap.size wy wy.drew):=(Below.refl _ _).drew;go_wp2_with fail;refine wp_region_any (by kernel_rfl) ?_;change wpAny _ _ _ _ _ _ _ (World.drew _);refine wpAny_of_held (S:=fun wx=>Below wy.heap.size wy wx) _ _ _ _ ?_;refine bY 0 rfl SY.o (by intro w hSw;obtain⟨⟨e0,e1,e2⟩,hqq⟩:=qy.o _ hSw;obtain⟨q0,q1,q2,q3,q4,q5⟩:=hqq.cs;exact gs) ?_;refine bY 1 rfl SY.o (by intro w hSw;obtain⟨⟨e0,e1,e2⟩,hqq⟩:=qy.o _ hSw;obtain⟨q0,q1,q2,q3,q4,q5⟩:=hqq.cs;exact gs) ?_
        refine bY 2 rfl SY.o (by intro w hSw;obtain⟨⟨e0,e1,e2⟩,hqq⟩:=qy.o _ hSw;obtain⟨q0,q1,q2,q3,q4,q5⟩:=hqq.cs;exact gs) ?_;refine bY 3 rfl SY.o (by intro w hSw;obtain⟨⟨e0,e1,e2⟩,hqq⟩:=qy.o _ hSw;obtain⟨q0,q1,q2,q3,q4,q5⟩:=hqq.cs;exact gs) ?_;refine bY 4 rfl SY.o (by intro w hSw;obtain⟨⟨e0,e1,e2⟩,hqq⟩:=qy.o _ hSw;obtain⟨q0,q1,q2,q3,q4,q5⟩:=hqq.cs;exact gs) ?_;refine bY 5 rfl SY.o (by intro w hSw;obtain⟨⟨e0,e1,e2⟩,hqq⟩:=qy.o _ hSw;obtain⟨q0,q1,q2,q3,q4,q5⟩:=hqq.cs;exact gs) ?_;refine bY 6 rfl SY.o (by intro w hSw;obtain⟨⟨e0,e1,e2⟩,hqq⟩:=qy.o _ hSw;obtain⟨q0,q1,q2,q3,q4,q5⟩:=hqq.cs;exact gs) ?_;have CW:=Fh _ _ _ d.prop wy.drew (HPX.o _ (XY.o.trans (SY.o.mono oo))).props
        rw[Hzi.o]at CW;have CW':Hid (Calls prog 58 #[.slice pa p.props.length pc,.string d.prop] wy.drew fun e w'=>e=.returned (.bool zi)/\w'=wy.drew):=CW;clear CW;refine jh 7 fun K hK=>?_;go_simp;refine CW'.o.mono ?_;rintro e wq ⟨rfl,hwq⟩;rw[hwq];clear hwq CW';refine hK.o _ _ SY.o (fun _=>?_);clear hK K;refine jh 8 fun K hK=>?_;go_simp;refine hK.o _ _ (SY.o) (fun _=>?_);clear hK K;refine wpAnyH_done (by kernel_rfl) ?_ _;have SZ:Hid (Below wy.heap.size wy wy.drew.drew):=SY.o.drew;have CH:=Fj d.val w3.heap.size p (.slice pa p.props.length pc) (.slice fa p.au.length fc) (.slice aa p.ats.length ac) (.slice va d.val.length vc) wy.drew.drew ((HPX.o _ (XY.o.trans (SZ.o.mono oo))).mono oo (by show w3.heap.size<=wy.heap.size;omega)) (HVV.o.below SZ.o oo);rw[Hzh.o]at CH;unfold dD at CH
        have CH':Hid (Calls prog 60 #[.slice va d.val.length vc,.agg #[.string p.root,.slice pa p.props.length pc,.slice fa p.au.length fc,.slice aa p.ats.length ac,.bool p.aO,.bool p.texts]] wy.drew.drew fun e w'=>e=.returned (.bool zh)/\Below wy.drew.drew.heap.size wy.drew.drew w'):=CH;clear CH;go_wp2_with fail;refine wp_region_any (by kernel_rfl) ?_;change wpAny _ _ _ _ _ _ _ (World.drew _);refine wpAny_of_held (S:=fun wx=>Below wy.heap.size wy wx) _ _ _ _ ?_;refine bY 0 rfl SZ.o (by intro w hSw;obtain⟨⟨e0,e1,e2⟩,hqq⟩:=qy.o _ hSw;obtain⟨q0,q1,q2,q3,q4,q5⟩:=hqq.cs;exact gs) ?_;refine bY 1 rfl SZ.o (by intro w hSw;obtain⟨⟨e0,e1,e2⟩,hqq⟩:=qy.o _ hSw;obtain⟨q0,q1,q2,q3,q4,q5⟩:=hqq.cs;exact gs) ?_
        refine bY 2 rfl SZ.o (by intro w hSw;obtain⟨⟨e0,e1,e2⟩,hqq⟩:=qy.o _ hSw;obtain⟨q0,q1,q2,q3,q4,q5⟩:=hqq.cs;exact gs) ?_;refine bY 3 rfl SZ.o (by intro w hSw;obtain⟨⟨e0,e1,e2⟩,hqq⟩:=qy.o _ hSw;obtain⟨q0,q1,q2,q3,q4,q5⟩:=hqq.cs;exact gs) ?_;refine bY 4 rfl SZ.o (by intro w hSw;obtain⟨⟨e0,e1,e2⟩,hqq⟩:=qy.o _ hSw;obtain⟨q0,q1,q2,q3,q4,q5⟩:=hqq.cs;exact gs) ?_;refine bY 5 rfl SZ.o (by intro w hSw;obtain⟨⟨e0,e1,e2⟩,hqq⟩:=qy.o _ hSw;obtain⟨q0,q1,q2,q3,q4,q5⟩:=hqq.cs;exact gs) ?_;refine jh 6 fun K hK=>?_;go_simp;refine CH'.o.mono ?_;rintro e w5 ⟨rfl,hb5⟩;have X5:Hid (Below wy.heap.size wy w5):=SZ.o.trans (hb5.mono (by show wy.heap.size<=wy.heap.size;omega));clear hb5 CH';refine hK.o _ _ X5.o (fun _=>?_);clear hK K
        refine jh 7 fun K hK=>?_;go_simp;refine hK.o _ _ (X5.o) (fun _=>?_);clear hK K;refine wpAnyH_done (by kernel_rfl) ?_ _;have hs5:=X5.o.size;obtain⟨⟨e0,e1,e2⟩,hqq⟩:=qy.o _ X5.o;obtain⟨q0,q1,q2,q3,q4,q5⟩:=hqq.cs;clear hqq;go_upto_region 27 with fail
        go_cut [162] (fun aeV wx=>aeV=.bool (!dk)/\wx=w5);case first=>
         have hem:d.val.isEmpty=((d.val.length:Int)==0):=by cases d.val<;>simp<;>omega
         rw[hem]at HDK;cases zc
         .cases zi
          .go_wp2_with fail;go_meet
           exact⟨by rw[HDK.o];rfl,rfl⟩
          .cases zh
           .go_wp2_with fail;go_meet
            exact⟨by rw[HDK.o];rfl,rfl⟩
           .cases hvz:((d.val.length:Int)==0)
            .go_wp2_with fail;go_meet
             exact⟨by rw[HDK.o,hvz];rfl,rfl⟩
            .go_wp2_with fail;go_meet
             exact⟨by rw[HDK.o,hvz];rfl,rfl⟩
         .obtain⟨cu,Hcu⟩:∃z,Hid (p.aO=z):=⟨_,hid rfl⟩;rw[Hcu.o]at q4 HDK;cases cu
          .go_wp2_with fail;go_meet
           exact⟨by rw[HDK.o];rfl,rfl⟩
          .cases zh
           .go_wp2_with fail;go_meet
            exact⟨by rw[HDK.o];rfl,rfl⟩
           .cases hvz:((d.val.length:Int)==0)
            .go_wp2_with fail;go_meet
             exact⟨by rw[HDK.o,hvz];rfl,rfl⟩
            .go_wp2_with fail;go_meet
             exact⟨by rw[HDK.o,hvz];rfl,rfl⟩
        case rest=>
        obtain⟨rfl,hwc⟩:=hcut;obtain rfl:=hwc.symm;clear HDK e0 e1 e2 q0 q1 q2 q3 q4 q5;have YX:Hid (Below w3.heap.size w3 w5):=HD.o.2.trans (X5.o.mono hsy);cases dk;case false=>
         have HN:Hid (bd=gI (b1 59) (DN p ds (k+1))):=by show _=_;rw[HTF.o,if_neg (by simp),List.append_nil];exact HD.o.1
         go_wp2_with fail;go_roundg(gk-1);case measure=>omega
         case rel=>exact⟨bd,k+1,rfl,by congr 1,oo,aeU,HN.o,YX.o⟩
        case true=>
        obtain⟨nm,iZ⟩:∃nm,Hid (bC d.prop=nm):=⟨_,hid rfl⟩;obtain⟨wt,Hwt⟩:∃wt,Hid (Sp.written d.val=wt):=⟨_,hid rfl⟩;have HDT:Hid (kD d=nm++(⟨#[58]⟩++(wt++(if d.imp=true then SQ else aA)))):=by show _=_;unfold kD;rw[iZ.o,Hwt.o];rfl
        have HJN:Hid (gI (b1 59) (DN p ds (k+1))=(if DN p ds k=[] then aA else bd++⟨#[59]⟩)++kD d):=by
         show _=_;rw[HTF.o,if_pos rfl,Gs];by_cases hq:DN p ds k=[]
         .rw[if_pos hq,if_pos hq,dP]
         .rw[if_neg hq,if_neg hq,HD.o.1,ByteArray.append_assoc];rfl
        have HVX:Hid (Sl (fun b=>b<w3.heap.size) w5 (.slice va d.val.length vc) d.val):=HVV.o.below X5.o oo;have afJ:nm.size<=4*d.prop.size:=by rw[<-iZ.o];exact bZ _
        have afK:wt.size<=fB d.val:=by rw[<-Hwt.o];exact gZ _
        cases hbe:(bd.toList==([]:List UInt8));case true=>
         have hbn:(bd.toList != ([]:List UInt8))=false:=by rw[bne,hbe];rfl
         have HQ0:Hid (DN p ds k=[]):=by
          show _=_;rcases Classical.em (DN p ds k=[])with h|h
          .exact h
          .have:=QJ (sep:=b1 59) (aal p ds k) h;rw[<-HD.o.1,lK.1 hbe]at this;exact absurd this (by decide)
         have hb0:bd=⟨#[]⟩:=lK.1 hbe;have HJ2:Hid (gI (b1 59) (DN p ds (k+1))=bd++(nm++(⟨#[58]⟩++(wt++(if d.imp=true then SQ else aA))))):=by show _=_;rw[HJN.o,if_pos HQ0.o,dP,HDT.o,hb0];exact(dP _).symm
         clear HJN HQ0 hb0 HTF;as_aux_lemma=>
          have hTz:bd.size+nm.size+1+wt.size+10<=549755813888+549755813888:=by unfold dz at aan;omega
          have SX:Hid (Below wy.heap.size wy w5.drew):=X5.o.drew;go_wp2_with fail;refine wp_region_any (by kernel_rfl) ?_;change wpAny _ _ _ _ _ _ _ (World.drew _);refine wpAny_of_held (S:=fun wq=>Below wy.heap.size wy wq) _ _ _ _ ?_;refine bY 0 rfl SX.o (by intro w hSw;obtain⟨⟨e0,e1,e2⟩,hqq⟩:=qy.o _ hSw;exact gs) ?_;refine bY 1 rfl SX.o (by intro w hSw;obtain⟨⟨e0,e1,e2⟩,hqq⟩:=qy.o _ hSw;exact gs) ?_;refine bY 2 rfl SX.o (by intro w hSw;obtain⟨⟨e0,e1,e2⟩,hqq⟩:=qy.o _ hSw;exact gs) ?_;refine bY 3 rfl SX.o (by intro w hSw;obtain⟨⟨e0,e1,e2⟩,hqq⟩:=qy.o _ hSw;exact gs) ?_;refine bY 4 rfl SX.o (by intro w hSw;obtain⟨⟨e0,e1,e2⟩,hqq⟩:=qy.o _ hSw;exact gs) ?_
          refine bY 5 rfl SX.o (by intro w hSw;obtain⟨⟨e0,e1,e2⟩,hqq⟩:=qy.o _ hSw;exact gs) ?_;refine bY 9 rfl SX.o (by intro w hSw;obtain⟨⟨e0,e1,e2⟩,hqq⟩:=qy.o _ hSw;exact gs) ?_;refine bY 10 rfl SX.o (by intro w hSw;obtain⟨⟨e0,e1,e2⟩,hqq⟩:=qy.o _ hSw;exact gs) ?_;refine bY 11 rfl SX.o (by intro w hSw;obtain⟨⟨e0,e1,e2⟩,hqq⟩:=qy.o _ hSw;exact gs) ?_;refine bY 12 rfl SX.o (by intro w hSw;obtain⟨⟨e0,e1,e2⟩,hqq⟩:=qy.o _ hSw;exact gs) ?_;refine bY 13 rfl SX.o (by intro w hSw;obtain⟨⟨e0,e1,e2⟩,hqq⟩:=qy.o _ hSw;exact gs) ?_;refine jh 6 fun K hK=>?_;go_simp;refine(jc d.prop _ hdp).mono ?_;rw[iZ.o];rintro e w6 ⟨rfl,hb6⟩
          have X6:Hid (Below wy.heap.size wy w6):=SX.o.trans (hb6.mono (by show wy.heap.size<=w5.heap.size;omega));have hs6:=X6.o.size;clear hb6;refine hK.o _ _ X6.o (fun _=>?_);clear hK K;refine bY 7 rfl X6.o (by intro w hSw;go_simp;rw[if_neg oa]) ?_;refine bY 8 rfl X6.o (by intro w hSw;go_simp;rw[if_neg oa]) ?_;refine jh 14 fun K hK=>?_;go_simp;refine(BL d.val w3.heap.size _ w6 (HVV.o.below X6.o oo) oo oo).mono ?_;rw[Hwt.o];rintro e w7 ⟨rfl,hb7⟩;have X7:Hid (Below wy.heap.size wy w7):=X6.o.trans (hb7.mono hs6);clear hb7;refine hK.o _ _ X7.o (fun _=>?_);clear hK K;refine bY 15 rfl X7.o (by intro w hSw;go_simp;rw[if_neg oa]) ?_;refine jh 16 fun K hK=>?_;go_simp
          refine hK.o _ _ (X7.o) (fun _=>?_);clear hK K;refine wpAnyH_done (by kernel_rfl) ?_ _;have Y7:Hid (Below w3.heap.size w3 w7):=HD.o.2.trans (X7.o.mono hsy);obtain⟨⟨e0,e1,e2⟩,_⟩:=qy.o _ X7.o;cases him:d.imp;case true=>
           rw[him]at e2 HJ2;have HN:Hid (bd++nm++⟨#[58]⟩++wt++⟨#[33,105,109,112,111,114,116,97,110,116]⟩=gI (b1 59) (DN p ds (k+1))):=by show _=_;rw[HJ2.o,if_pos rfl];simp only[ByteArray.append_assoc];rfl
           have QK:(bd++nm++⟨#[58]⟩++wt++⟨#[33,105,109,112,111,114,116,97,110,116]⟩:ByteArray).size<=274877906944:=by rw[HN.o];exact hnz
           go_wp2_with fail;go_roundg(gk-1);case measure=>omega
           case rel=>exact⟨_,k+1,rfl,by congr 1,oo,QK,HN.o,Y7.o⟩
          case false=>
           rw[him]at e2 HJ2;have HN:Hid (bd++nm++⟨#[58]⟩++wt=gI (b1 59) (DN p ds (k+1))):=by show _=_;rw[HJ2.o,if_neg (by simp),jL];simp only[ByteArray.append_assoc]
           have QK:(bd++nm++⟨#[58]⟩++wt:ByteArray).size<=274877906944:=by rw[HN.o];exact hnz
           go_wp2_with fail;go_roundg(gk-1);case measure=>omega
           case rel=>exact⟨_,k+1,rfl,by congr 1,oo,QK,HN.o,Y7.o⟩
        case false=>
         have hbn:(bd.toList != ([]:List UInt8))=true:=by rw[bne,hbe];rfl
         have HQ0:Hid (¬DN p ds k=[]):=by intro h;have e:=HD.o.1;rw[h]at e;rw[lK.2 (show bd=aA from e)]at hbe;cases hbe
         have HJ2:Hid (gI (b1 59) (DN p ds (k+1))=(bd++⟨#[59]⟩)++(nm++(⟨#[58]⟩++(wt++(if d.imp=true then SQ else aA))))):=by show _=_;rw[HJN.o,if_neg HQ0.o,HDT.o]
         have hb1:(bd++⟨#[59]⟩:ByteArray).size=bd.size+1:=by rw[ByteArray.size_append];rfl
         clear HJN HQ0 HTF;as_aux_lemma=>
          have hTz:(bd.size+1)+nm.size+1+wt.size+10<=549755813888+549755813888:=by unfold dz at aan;omega
          have SX:Hid (Below wy.heap.size wy w5.drew):=X5.o.drew;go_wp2_with fail;refine wp_region_any (by kernel_rfl) ?_;change wpAny _ _ _ _ _ _ _ (World.drew _);refine wpAny_of_held (S:=fun wq=>Below wy.heap.size wy wq) _ _ _ _ ?_;refine bY 0 rfl SX.o (by intro w hSw;obtain⟨⟨e0,e1,e2⟩,hqq⟩:=qy.o _ hSw;exact gs) ?_;refine bY 1 rfl SX.o (by intro w hSw;obtain⟨⟨e0,e1,e2⟩,hqq⟩:=qy.o _ hSw;exact gs) ?_;refine bY 2 rfl SX.o (by intro w hSw;obtain⟨⟨e0,e1,e2⟩,hqq⟩:=qy.o _ hSw;exact gs) ?_;refine bY 3 rfl SX.o (by intro w hSw;obtain⟨⟨e0,e1,e2⟩,hqq⟩:=qy.o _ hSw;exact gs) ?_;refine bY 4 rfl SX.o (by intro w hSw;obtain⟨⟨e0,e1,e2⟩,hqq⟩:=qy.o _ hSw;exact gs) ?_
          refine bY 5 rfl SX.o (by intro w hSw;obtain⟨⟨e0,e1,e2⟩,hqq⟩:=qy.o _ hSw;exact gs) ?_;refine bY 9 rfl SX.o (by intro w hSw;obtain⟨⟨e0,e1,e2⟩,hqq⟩:=qy.o _ hSw;exact gs) ?_;refine bY 10 rfl SX.o (by intro w hSw;obtain⟨⟨e0,e1,e2⟩,hqq⟩:=qy.o _ hSw;exact gs) ?_;refine bY 11 rfl SX.o (by intro w hSw;obtain⟨⟨e0,e1,e2⟩,hqq⟩:=qy.o _ hSw;exact gs) ?_;refine bY 12 rfl SX.o (by intro w hSw;obtain⟨⟨e0,e1,e2⟩,hqq⟩:=qy.o _ hSw;exact gs) ?_;refine bY 13 rfl SX.o (by intro w hSw;obtain⟨⟨e0,e1,e2⟩,hqq⟩:=qy.o _ hSw;exact gs) ?_;refine jh 6 fun K hK=>?_;go_simp;refine(jc d.prop _ hdp).mono ?_;rw[iZ.o];rintro e w6 ⟨rfl,hb6⟩
          have X6:Hid (Below wy.heap.size wy w6):=SX.o.trans (hb6.mono (by show wy.heap.size<=w5.heap.size;omega));have hs6:=X6.o.size;clear hb6;refine hK.o _ _ X6.o (fun _=>?_);clear hK K;refine bY 7 rfl X6.o (by intro w hSw;go_simp;rw[if_neg oa]) ?_;refine bY 8 rfl X6.o (by intro w hSw;go_simp;rw[if_neg oa]) ?_;refine jh 14 fun K hK=>?_;go_simp;refine(BL d.val w3.heap.size _ w6 (HVV.o.below X6.o oo) oo oo).mono ?_;rw[Hwt.o];rintro e w7 ⟨rfl,hb7⟩;have X7:Hid (Below wy.heap.size wy w7):=X6.o.trans (hb7.mono hs6);clear hb7;refine hK.o _ _ X7.o (fun _=>?_);clear hK K;refine bY 15 rfl X7.o (by intro w hSw;go_simp;rw[if_neg oa]) ?_;refine jh 16 fun K hK=>?_;go_simp
          refine hK.o _ _ (X7.o) (fun _=>?_);clear hK K;refine wpAnyH_done (by kernel_rfl) ?_ _;have Y7:Hid (Below w3.heap.size w3 w7):=HD.o.2.trans (X7.o.mono hsy);obtain⟨⟨e0,e1,e2⟩,_⟩:=qy.o _ X7.o;cases him:d.imp;case true=>
           rw[him]at e2 HJ2;have HN:Hid ((bd++⟨#[59]⟩)++nm++⟨#[58]⟩++wt++⟨#[33,105,109,112,111,114,116,97,110,116]⟩=gI (b1 59) (DN p ds (k+1))):=by show _=_;rw[HJ2.o,if_pos rfl];simp only[ByteArray.append_assoc];rfl
           have QK:((bd++⟨#[59]⟩)++nm++⟨#[58]⟩++wt++⟨#[33,105,109,112,111,114,116,97,110,116]⟩:ByteArray).size<=274877906944:=by rw[HN.o];exact hnz
           go_wp2_with fail;go_roundg(gk-1);case measure=>omega
           case rel=>exact⟨_,k+1,rfl,by congr 1,oo,QK,HN.o,Y7.o⟩
          case false=>
           rw[him]at e2 HJ2;have HN:Hid ((bd++⟨#[59]⟩)++nm++⟨#[58]⟩++wt=gI (b1 59) (DN p ds (k+1))):=by show _=_;rw[HJ2.o,if_neg (by simp),jL];simp only[ByteArray.append_assoc]
           have QK:((bd++⟨#[59]⟩)++nm++⟨#[58]⟩++wt:ByteArray).size<=274877906944:=by rw[HN.o];exact hnz
           go_wp2_with fail;go_roundg(gk-1);case measure=>omega
           case rel=>exact⟨_,k+1,rfl,by congr 1,oo,QK,HN.o,Y7.o⟩
      .have h2:(ds.length:Int)<=(k:Int):=oo;as_aux_lemma=>
        have HBO:Hid (bd=pX p bl):=by show _=_;rw[HD.o.1];unfold DN pX;rw[List.take_of_length_le oo,Hds.o]
        have aeW:Hid (SG (CX (bP (depth r.head))) 1 (fun b=>b<w2.heap.size) wy (.slice sa ss.length sc) ss):=aeT.o.below (One.fair (lX.fair (bP.fair _))) HD.o.2 oo;rw[<-HBO.o]at NZ;cases hbe:(bd.toList==([]:List UInt8));case true=>
         have XZ:Hid (gX p rec r=aA):=by show _=_;rw[NZ.o,if_pos (lK.1 hbe)]
         clear NZ;have NZ:Hid (gX p rec r=aA):=XZ.o;have HE:Hid (T=acc++cat ((rs.drop (i+1)).map (gX p rec))):=by show _=_;rw[YB.o,NZ.o,dP]
         go_wp2_with fail;go_roundg(rs.length-(i+1));case measure=>omega
         case rel=>exact⟨acc,i+1,rfl,by congr 1,oo,HE.o,FIN.o _ XY.o⟩
        case false=>
         have XZ:Hid (gX p rec r=gU (nK p) ss++(b1 123++(bd++b1 125))):=by show _=_;rw[NZ.o,if_neg (fun e=>by rw[lK.2 e]at hbe;cases hbe)]
         have HLC:Hid (Calls prog 65 #[.slice sa ss.length sc,.string (nK p)] wy fun e w'=>e=.returned (.string (gU (nK p) ss))/\Below wy.heap.size wy w'):=Ui (depth r.head) Si.o w2.heap.size ss _ (nK p) wy aeW.o oo (HIX.o _ XY.o) HQK.o oo (by rw[show nK p=jl p.root from rfl];omega);have aeX:(gU (nK p) ss).size<=549755813888:=by rw[show nK p=jl p.root from rfl];omega
         obtain⟨lo,Hlo⟩:∃lo,Hid (gU (nK p) ss=lo):=⟨_,hid rfl⟩;rw[Hlo.o]at HLC aeX XZ;have HE:Hid (T=(acc++lo++⟨#[123]⟩++bd++⟨#[125]⟩)++cat ((rs.drop (i+1)).map (gX p rec))):=by show _=_;rw[YB.o,XZ.o];simp only[ByteArray.append_assoc];rfl
         have hTz:acc.size+lo.size+1+bd.size+1<=549755813888:=by have:=hT;rw[HE.o]at this;simp only[ByteArray.size_append]at this;have e1:(⟨#[123]⟩:ByteArray).size=1:=rfl;have e2:(⟨#[125]⟩:ByteArray).size=1:=rfl;omega
         clear NZ XZ;have QY:=HQ.o _ XY.o;obtain⟨q0,q1,q2,q3,q4,q5⟩:=QY.cs;clear QY;cases hro:(p.root.toList==([]:List UInt8));case true=>
          have hrn:(p.root.toList != ([]:List UInt8))=false:=by rw[bne,hro];rfl
          have HAH:Hid (nK p=⟨#[]⟩):=by show _=_;unfold nK;rw[if_pos (lK.1 hro)];rfl
          rw[HAH.o]at HLC;go_wp2_with fail;refine HLC.o.mono ?_;rintro e w8 ⟨rfl,hb8⟩;have X8:Hid (Below wo.heap.size wo w8):=XY.o.trans (hb8.mono oo);clear hb8 HLC q0 q1 q2 q3 q4 q5;go_wp2_with fail;go_roundg(rs.length-(i+1));case measure=>omega
          case rel=>exact⟨acc++lo++⟨#[123]⟩++bd++⟨#[125]⟩,i+1,rfl,by congr 1,oo,HE.o,FIN.o _ X8.o⟩
         case false=>
          have hrn:(p.root.toList != ([]:List UInt8))=true:=by rw[bne,hro];rfl
          have HAH:Hid (nK p=(⟨#[46]⟩++p.root)++⟨#[32]⟩):=by show _=_;unfold nK;rw[if_neg (fun e=>by rw[lK.2 e]at hro;cases hro),ByteArray.append_assoc];rfl
          rw[HAH.o]at HLC;go_wp2_with fail;refine HLC.o.mono ?_;rintro e w8 ⟨rfl,hb8⟩;have X8:Hid (Below wo.heap.size wo w8):=XY.o.trans (hb8.mono oo);clear hb8 HLC q0 q1 q2 q3 q4 q5;go_wp2_with fail;go_roundg(rs.length-(i+1));case measure=>omega
          case rel=>exact⟨acc++lo++⟨#[123]⟩++bd++⟨#[125]⟩,i+1,rfl,by congr 1,oo,HE.o,FIN.o _ X8.o⟩
   |some x=>
    obtain rfl:x=av:=HAE.o x hat;have HAT:Hid (r.at_=some x):=hat;rw[hat]at c1;clear hat;obtain⟨sm,Hsm⟩:∃sm,Hid (small x=sm):=⟨_,hid rfl⟩;have hsm:sm.size<=4000000:=by rw[<-Hsm.o,Ey];exact hav
    obtain⟨bh,Hbh⟩:∃bh,Hid (bare r.head=bh):=⟨_,hid rfl⟩;obtain⟨zi,Hzi⟩:∃z,Hid (p.ats.contains sm=z):=⟨_,hid rfl⟩;obtain⟨zh,Hzh⟩:∃z,Hid (bV p bh=z):=⟨_,hid rfl⟩;obtain⟨zb,GK⟩:∃z,Hid (r.body.isSome=z):=⟨_,hid rfl⟩;have hwb:fB bh<=4000000:=by rw[<-Hbh.o];exact Nat.le_trans (kP _) HRK.o.wzh
    rw[GK.o]at c4 nU;go_wp2_with fail;refine(gW x wo hav).mono ?_;rw[Hsm.o];rintro e w2 ⟨rfl,hb2⟩;have X2:Hid (Below wo.heap.size wo w2):=hb2;clear hb2 c0 c1 c2 c3 c4;have CW:=Fh _ _ _ sm w2 (HPX.o _ X2.o).ats;rw[Hzi.o]at CW;have CW':Hid (Calls prog 58 #[.slice aa p.ats.length ac,.string sm] w2 fun e w'=>e=.returned (.bool zi)/\w'=w2):=CW;clear CW;have QX:=HQ.o _ X2.o;obtain⟨q0,q1,q2,q3,q4,q5⟩:=QX.cs;clear QX;go_wp2_with fail;refine CW'.o.mono ?_;rintro e wq ⟨rfl,hwq⟩;rw[hwq];clear hwq CW' q0 q1 q2 q3 q4 q5;obtain⟨c0,c1,c2,c3,c4⟩:=nU.o _ X2.o;go_wp2_with fail;refine(mQ B r.head _ w2 (HHD.o.below X2.o oo)).mono ?_;rw[Hbh.o];rintro e wq ⟨bhv,rfl,hbs,hwq⟩;rw[hwq];obtain⟨bha,bhc,rfl⟩:=hbs.form;have hbl:=hbs.len;have VL:Hid (Sl (fun b=>b<B) w2 (.slice bha bh.length bhc) bh):=hbs;clear hwq hbs c0 c1 c2 c3 c4
    have CH:=Fj bh B p (.slice pa p.props.length pc) (.slice fa p.au.length fc) (.slice aa p.ats.length ac) (.slice bha bh.length bhc) w2 (HPX.o _ X2.o) VL.o;rw[Hzh.o]at CH;unfold dD at CH;have CH':Hid (Calls prog 60 #[.slice bha bh.length bhc,.agg #[.string p.root,.slice pa p.props.length pc,.slice fa p.au.length fc,.slice aa p.ats.length ac,.bool p.aO,.bool p.texts]] w2 fun e w'=>e=.returned (.bool zh)/\Below w2.heap.size w2 w'):=CH;clear CH;have QX:=HQ.o _ X2.o;obtain⟨q0,q1,q2,q3,q4,q5⟩:=QX.cs;clear QX;go_wp2_with fail;refine CH'.o.mono ?_;rintro e w3 ⟨rfl,hb3⟩;have X3:Hid (Below wo.heap.size wo w3):=X2.o.trans (hb3.mono X2.o.size);have HB3:Hid (Sl (fun b=>b<B) w3 (.slice bha bh.length bhc) bh):=VL.o.below hb3 (by have:=X2.o.size;omega);clear hb3 CH' q0 q1 q2 q3 q4 q5;have hs3:=X3.o.size;obtain⟨c0,c1,c2,c3,c4⟩:=nU.o _ X3.o;cases zi;case false=>
     have NZ:Hid (gX p rec r=aA):=by
      show _=_;unfold gX;rw[HAT.o];cases r.body with
      |none=>rfl
      |some b=>simp only;rw[if_neg (fun h=>by rw[Hsm.o,Hzi.o]at h;cases h.1)]
     have HE:Hid (T=acc++cat ((rs.drop (i+1)).map (gX p rec))):=by show _=_;rw[YB.o,NZ.o,dP]
     go_wp2_with fail;go_roundg(rs.length-(i+1));case measure=>omega
     case rel=>exact⟨acc,i+1,rfl,by congr 1,oo,HE.o,FIN.o _ X3.o⟩
    case true=>
    cases zh;case false=>
     have NZ:Hid (gX p rec r=aA):=by
      show _=_;unfold gX;rw[HAT.o];cases r.body with
      |none=>rfl
      |some b=>simp only;rw[if_neg (fun h=>by rw[Hbh.o,Hzh.o]at h;cases h.2)]
     have HE:Hid (T=acc++cat ((rs.drop (i+1)).map (gX p rec))):=by show _=_;rw[YB.o,NZ.o,dP]
     go_wp2_with fail;go_roundg(rs.length-(i+1));case measure=>omega
     case rel=>exact⟨acc,i+1,rfl,by congr 1,oo,HE.o,FIN.o _ X3.o⟩
    case true=>
    cases hbo:r.body with
    |none=>
     have NZ:Hid (gX p rec r=aA):=by show _=_;unfold gX;rw[HAT.o,hbo]
     have hzb:=GK.o;rw[hbo]at hzb;have acd:zb=false:=hzb.symm;subst acd;clear hbo hzb;have HE:Hid (T=acc++cat ((rs.drop (i+1)).map (gX p rec))):=by show _=_;rw[YB.o,NZ.o,dP]
     go_wp2_with fail;go_roundg(rs.length-(i+1));case measure=>omega
     case rel=>exact⟨acc,i+1,rfl,by congr 1,oo,HE.o,FIN.o _ X3.o⟩
    |some b=>
     obtain rfl:bl=b:=HBE.o b hbo;have ace:Hid (gX p rec r=if rec bl=aA then aA else b1 64++(bC sm++(mD bh++(b1 123++(rec bl++b1 125))))):=by show _=_;unfold gX;rw[HAT.o,hbo];simp only;rw[Hsm.o,Hbh.o,if_pos ⟨Hzi.o,Hzh.o⟩]
     have aeY:Hid (XW p (.slice pa p.props.length pc) (.slice fa p.au.length fc) (.slice aa p.ats.length ac) (rules false bl) (rec bl) w):=HRK.o.rok x bl HAT.o hbo;have hzb:=GK.o;rw[hbo]at hzb;have acd:zb=true:=hzb.symm;subst acd;clear hbo hzb;as_aux_lemma=>
      have S3:Hid (Below wo.heap.size wo w3.drew):=X3.o.drew;go_wp2_with fail;refine wp_region_any (by kernel_rfl) ?_;change wpAny _ _ _ _ _ _ _ (World.drew _);refine wpAny_of_held (S:=fun wx=>Below wo.heap.size wo wx) _ _ _ _ ?_;refine bY 0 rfl S3.o (by intro w hSw;obtain⟨e0,e1,e2,e3,e4⟩:=nU.o _ hSw;obtain⟨q0,q1,q2,q3,q4,q5⟩:=(HQ.o _ hSw).cs;exact gs) ?_;refine bY 1 rfl S3.o (by intro w hSw;obtain⟨e0,e1,e2,e3,e4⟩:=nU.o _ hSw;obtain⟨q0,q1,q2,q3,q4,q5⟩:=(HQ.o _ hSw).cs;exact gs) ?_;refine bY 2 rfl S3.o (by intro w hSw;obtain⟨e0,e1,e2,e3,e4⟩:=nU.o _ hSw;obtain⟨q0,q1,q2,q3,q4,q5⟩:=(HQ.o _ hSw).cs;exact gs) ?_;refine bY 3 rfl S3.o (by intro w hSw;obtain⟨e0,e1,e2,e3,e4⟩:=nU.o _ hSw;obtain⟨q0,q1,q2,q3,q4,q5⟩:=(HQ.o _ hSw).cs;exact gs) ?_
      refine bY 4 rfl S3.o (by intro w hSw;obtain⟨e0,e1,e2,e3,e4⟩:=nU.o _ hSw;obtain⟨q0,q1,q2,q3,q4,q5⟩:=(HQ.o _ hSw).cs;exact gs) ?_;refine bY 6 rfl S3.o (by intro w hSw;obtain⟨e0,e1,e2,e3,e4⟩:=nU.o _ hSw;obtain⟨q0,q1,q2,q3,q4,q5⟩:=(HQ.o _ hSw).cs;exact gs) ?_;refine jh 5 fun K hK=>?_;go_simp;refine(Rz B false bl _ w3.drew (Rj.o.below S3.o oo) (by show B<=w3.heap.size;omega)).mono ?_;rintro e w4 ⟨ru,rfl,hrg,hb4⟩;have X4:Hid (Below wo.heap.size wo w4):=S3.o.trans (hb4.mono (by show wo.heap.size<=w3.heap.size;omega));obtain⟨ra,rc,rfl⟩:=hrg.form;have HRG:Hid (SG GI 5 (fun b=>b<w4.heap.size) w4 (.slice ra (rules false bl).length rc) (rules false bl)):=hrg;clear hb4 hrg;refine hK.o _ _ X4.o (fun _=>?_);clear hK K
      have CR:=aeY.o (.slice ra (rules false bl).length rc) w4 (by rw[mF.o];exact B0.o.trans ((FIN.o _ X4.o).mono hsz0)) HRG.o;unfold dD at CR;obtain⟨rl,Hrl⟩:∃rl,Hid ((rules false bl).length=rl):=⟨_,hid rfl⟩;rw[Hrl.o]at CR⊢;obtain⟨bo,UN⟩:∃bo,Hid (rec bl=bo):=⟨_,hid rfl⟩;rw[UN.o]at CR ace;have CR':Hid (Calls prog 27 #[.slice ra rl rc,.agg #[.string p.root,.slice pa p.props.length pc,.slice fa p.au.length fc,.slice aa p.ats.length ac,.bool p.aO,.bool p.texts]] w4 fun e w'=>e=.returned (.string bo)/\Below w4.heap.size w4 w'):=CR;clear CR;refine jh 7 fun K hK=>?_;go_simp;refine CR'.o.mono ?_;rintro e w5 ⟨rfl,hb5⟩;have X5:Hid (Below wo.heap.size wo w5):=X4.o.trans (hb5.mono X4.o.size);clear hb5 CR';refine hK.o _ _ X5.o (fun _=>?_);clear hK K;refine jh 8 fun K hK=>?_;go_simp;refine hK.o _ _ (X5.o) (fun _=>?_);clear hK K
      refine wpAnyH_done (by kernel_rfl) ?_ _;have hs5:=X5.o.size;clear c0 c1 c2 c3 c4;cases hbe:(bo.toList==([]:List UInt8));case true=>
       have NZ:Hid (gX p rec r=aA):=by show _=_;rw[ace.o,if_pos (lK.1 hbe)]
       have HE:Hid (T=acc++cat ((rs.drop (i+1)).map (gX p rec))):=by show _=_;rw[YB.o,NZ.o,dP]
       go_wp2_with fail;go_roundg(rs.length-(i+1));case measure=>omega
       case rel=>exact⟨acc,i+1,rfl,by congr 1,oo,HE.o,FIN.o _ X5.o⟩
      case false=>
      have adV:Hid (gX p rec r=b1 64++(bC sm++(mD bh++(b1 123++(bo++b1 125))))):=by show _=_;rw[ace.o,if_neg (fun e=>by rw[lK.2 e]at hbe;cases hbe)]
      obtain⟨nm,iZ⟩:∃nm,Hid (bC sm=nm):=⟨_,hid rfl⟩;rw[iZ.o]at adV;have HE0:Hid (T=acc++((⟨#[64]⟩++(nm++(mD bh++(⟨#[123]⟩++(bo++⟨#[125]⟩)))))++cat ((rs.drop (i+1)).map (gX p rec)))):=by show _=_;rw[YB.o,adV.o];rfl
      have hTz:acc.size+1+nm.size+(mD bh).size+1+bo.size+1<=549755813888:=by have:=hT;rw[HE0.o]at this;simp only[ByteArray.size_append]at this;have e1:(⟨#[123]⟩:ByteArray).size=1:=rfl;have e2:(⟨#[125]⟩:ByteArray).size=1:=rfl;have e3:(⟨#[64]⟩:ByteArray).size=1:=rfl;omega
      go_wp2_with fail;refine(jc sm _ hsm).mono ?_;rw[iZ.o];rintro e w6 ⟨rfl,hb6⟩;have X6:Hid (Below wo.heap.size wo w6):=X5.o.trans (hb6.mono hs5);clear hb6;have hs6:=X6.o.size;have HB6:Hid (Sl (fun b=>b<B) w6 (.slice bha bh.length bhc) bh):=VL.o.keep (fun _ h=>h) (fun k hk=>by have hk':k<B:=hk;rw[X6.o.block k oo];exact(X2.o.block k oo).symm)
      have ha1:(acc++⟨#[64]⟩:ByteArray).size=acc.size+1:=by rw[ByteArray.size_append];rfl
      have ha2:(acc++⟨#[64]⟩++nm:ByteArray).size=acc.size+1+nm.size:=by rw[ByteArray.size_append,ha1]
      by_cases hbz:bh.length=0
      case pos=>
       have hbn:bh=[]:=List.eq_nil_of_length_eq_zero hbz;have hbI:(bh.length:Int)<=0:=oo;have HHO:Hid (mD bh=aA):=by show _=_;unfold mD;rw[if_pos hbn]
       have HE:Hid (T=(acc++⟨#[64]⟩++nm++⟨#[123]⟩++bo++⟨#[125]⟩)++cat ((rs.drop (i+1)).map (gX p rec))):=by show _=_;rw[HE0.o,HHO.o,dP];simp only[ByteArray.append_assoc]
       clear hbz hbn;go_wp2_with fail;go_roundg(gk-1);case measure=>omega
       case rel=>exact⟨_,i+1,rfl,by congr 1,oo,HE.o,FIN.o _ X6.o⟩
      case neg=>
       have hbI:(0:Int)<(bh.length:Int):=oo;obtain⟨wt,Hwt⟩:∃wt,Hid (Sp.written bh=wt):=⟨_,hid rfl⟩;have HHO:Hid (mD bh=⟨#[32]⟩++wt):=by show _=_;unfold mD;rw[if_neg (by rintro rfl;simp at hbz),Hwt.o];rfl
       have HE:Hid (T=(acc++⟨#[64]⟩++nm++⟨#[32]⟩++wt++⟨#[123]⟩++bo++⟨#[125]⟩)++cat ((rs.drop (i+1)).map (gX p rec))):=by show _=_;rw[HE0.o,HHO.o];simp only[ByteArray.append_assoc]
       rw[HHO.o,ByteArray.size_append]at hTz;have e32:(⟨#[32]⟩:ByteArray).size=1:=rfl;rw[e32]at hTz;clear hbz;go_wp2_with fail;refine(BL bh B _ w6 (HB6.o) oo oo).mono ?_;rw[Hwt.o];rintro e w7 ⟨rfl,hb7⟩;have X7:Hid (Below wo.heap.size wo w7):=X6.o.trans (hb7.mono hs6);clear hb7;have ha3:(acc++⟨#[64]⟩++nm++⟨#[32]⟩:ByteArray).size=acc.size+1+nm.size+1:=by rw[ByteArray.size_append,ha2];rfl
       have ha4:(acc++⟨#[64]⟩++nm++⟨#[32]⟩++wt:ByteArray).size=acc.size+1+nm.size+1+wt.size:=by rw[ByteArray.size_append,ha3]
       go_wp2_with fail;go_roundg(gk-1);case measure=>omega
       case rel=>exact⟨_,i+1,rfl,by congr 1,oo,HE.o,FIN.o _ X7.o⟩
  .have h1:(rs.length:Int)<=(i:Int):=oo;have HV:Hid (acc=T):=by
    show _=_;rw[HC.o.1,List.drop_of_length_le oo];exact(jL _).symm
   go_wp2_with fail;go_ret;exact⟨iW HV.o,by rw[mF.o];exact B0.o.trans (HC.o.2.mono hsz0)⟩
end Go.Proofs.YtlliliddljkbfaaGreatDoor
