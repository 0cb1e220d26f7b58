import Derived.Test.YtlliliddljkbfaaGreatDoorC40
import Derived.Test.YtlliliddljkbfaaGreatDoorC41
namespace Go.Proofs.YtlliliddljkbfaaGreatDoor
set_option maxHeartbeats 64000000
set_option maxRecDepth 100000
open Go.Proofs.Tryz (prog)
open Go.RowKit Sp
theorem iO.mono{B B':Nat}{w:World}{p:aS}{pv fv av:Value}(h:iO B w p pv fv av)(hB:B<=B')(hw:B'<=w.heap.size):iO B' w p pv fv av:=⟨h.props.mono iI.fair hB,h.au.mono iI.fair hB,h.ats.mono iI.fair hB,hw⟩
def dz(d:Dec):Nat:=4*d.prop.size+fB d.val+24
def F7:List Dec->Nat
 |[]=>0
 |d::r=>dz d+F7 r
theorem Qr:∀(l:List Dec) (i:Nat) (h:i<l.length),dz l[i]<=F7 l
 |d::r,0,_=>by unfold F7;simp
 |d::r,i+1,h=>by have:=Qr r i (by simpa using h);unfold F7;simp only[List.getElem_cons_succ];omega
theorem AA(p:aS):∀(l:List Dec),total ((l.filter (kK p)).map kD)+(l.filter (kK p)).length<=F7 l
 |[]=>by simp[total,F7]
 |d::r=>by
  have ih:=AA p r;have hs:=Uw d;unfold F7 dz;by_cases hk:kK p d=true
  .rw[List.filter_cons_of_pos hk];simp only[List.map_cons,total,List.length_cons];omega
  .rw[List.filter_cons_of_neg hk];omega
theorem Df{p:aS}{l:List Dec}{i:Nat}(h:i<l.length):((l.take (i+1)).filter (kK p)).map kD=((l.take i).filter (kK p)).map kD++(if kK p l[i]=true then [kD l[i]] else []):=by
 rw[List.take_succ_eq_append_getElem h,List.filter_append,List.map_append];congr 1
 by_cases hk:kK p l[i]=true
 .rw[List.filter_cons_of_pos hk,if_pos hk];rfl
 .rw[List.filter_cons_of_neg hk,if_neg hk];rfl
theorem LG.dec{S:Nat->Prop}{w:World}{l:List Dec}{g o i:Nat}(h:LG nZ 3 S w l g o)(hi:i<l.length):S g/\∃vv,w.cell? ⟨g,o+i*3,none⟩=some (.string l[i].prop)/\w.cell? ⟨g,o+i*3+1,none⟩=some vv/\w.cell? ⟨g,o+i*3+2,none⟩=some (.bool l[i].imp)/\Sl S w vv l[i].val/\l[i].prop.size<=4000000:=by obtain⟨h0,cs,⟨vv,rfl,hs,hp⟩,hc⟩:=h.at l g o i hi;refine⟨h0,vv,?_,hc 1 _ rfl,hc 2 _ rfl,hs,hp⟩;have:=hc 0 _ rfl;rwa[Nat.add_zero]at this
theorem F8(B:Nat)(p:aS)(pv fv av:Value)(l:List Nd)(v:Value)(w:World)(hP:iO B w p pv fv av)(h:Sl (fun b=>b<B) w v l)(hk:∀d∈decls l,JR d.val)(hz:F7 (decls l)<=274877906944):
  Calls prog 106 #[dD p pv fv av,v] w fun e w'=>e=.returned (.string (pX p l))/\Below w.heap.size w w':=by
 have hB:=hP.lt;obtain⟨a,cap,rfl⟩:=h.form;obtain⟨pa,pc,rfl⟩:=hP.props.form;obtain⟨fa,fc,rfl⟩:=hP.au.form;obtain⟨aa,ac,rfl⟩:=hP.ats.form;obtain⟨ds,Hds⟩:∃ds,Hid (decls l=ds):=⟨_,hid rfl⟩;have HK:Hid (∀d∈ds,JR d.val):=by rw[<-Hds.o];exact hk
 rw[Hds.o]at hz;have HBO:Hid (gI (b1 59) ((ds.filter (kK p)).map kD)=pX p l):=by show _=_;unfold pX;rw[Hds.o]
 have htot:=AA p ds;clear hk;obtain⟨iS,uh⟩:=jV;have HI:Hid (prog.info? 9=some iS/\iS.zero=some (.string ⟨#[]⟩)/\iS.size=1/\iS.bytes=16):=uh;clear uh;obtain⟨B0,Q0⟩:=Q6.nb p pa fa aa pc fc ac w;have Ot:Hid (iO B (w.alloc (.cells #[.string p.root,.slice pa p.props.length pc,.slice fa p.au.length fc,.slice aa p.ats.length ac,.bool p.aO,.bool p.texts] 51)) p (.slice pa p.props.length pc) (.slice fa p.au.length fc) (.slice aa p.ats.length ac)):=hP.below B0.o hB;have Yy:Hid (Sl (fun b=>b<B) (w.alloc (.cells #[.string p.root,.slice pa p.props.length pc,.slice fa p.au.length fc,.slice aa p.ats.length ac,.bool p.aO,.bool p.texts] 51)) (.slice a l.length cap) l):=h.below B0.o hB;clear hP h;unfold dD;go_in;go_upto_region 1 with fail
 have hsz0:=B0.o.size;have hlt0:=Q0.o.lt;generalize w.alloc (.cells #[.string p.root,.slice pa p.props.length pc,.slice fa p.au.length fc,.slice aa p.ats.length ac,.bool p.aO,.bool p.texts] 51)=w0 at *;obtain⟨rb,mF⟩:∃rb,Hid (w.heap.size=rb):=⟨_,hid rfl⟩;rw[mF.o]at B0 Q0 hB hlt0 hsz0⊢;go_wp2_with fail;refine(Ez B l _ w0 Yy.o oo).mono ?_;rw[Hds.o];rintro e w1 ⟨u1,rfl,hsg,hb1⟩;obtain⟨da,dc,rfl⟩:=hsg.form;have hdl:=hsg.len;have B1:Hid (Below w0.heap.size w0 w1):=hb1;have OX:Hid (SG nZ 3 (fun b=>b<w1.heap.size) w1 (.slice da ds.length dc) ds):=hsg;have hs1:=hb1.size;have Q1:Hid (Q6 w1 rb (.string p.root) (.slice pa p.props.length pc) (.slice fa p.au.length fc) (.slice aa p.ats.length ac) (.bool p.aO) (.bool p.texts)):=Q0.o.below hb1 hlt0
 have UR:Hid (iO w1.heap.size w1 p (.slice pa p.props.length pc) (.slice fa p.au.length fc) (.slice aa p.ats.length ac)):=(Ot.o.below hb1 oo).mono oo nl;clear hsg hb1 Yy Ot Q0;go_wp2_with fail;go_loopg[5,11] ds.length (fun gg v5 v11 wr=>∃(u:Value) (i:Nat),u=v5/\v11=.int .i64 (i:Int)/\i+gg=ds.length/\Aside (wr.ownsRow w1.heap.size 9 1 u (((ds.take i).filter (kK p)).map kD).length ((((ds.take i).filter (kK p)).map kD).map Value.string)/\Below w1.heap.size w1 wr));case atStart=>exact⟨_,0,rfl,rfl,oo,World.ownsRow_nil _ _ _ _,Below.refl _ _⟩
 case round=>
  obtain⟨u,i,rfl,rfl,hi,hA⟩:=hrel;have O1:Hid (wr.ownsRow w1.heap.size 9 1 u (((ds.take i).filter (kK p)).map kD).length ((((ds.take i).filter (kK p)).map kD).map Value.string)):=hA.o.1;have BR:Hid (Below w1.heap.size w1 wr):=hA.o.2;clear hA;have hsr:=BR.o.size;by_cases hlt:i<ds.length
  .have h1:(i:Int)<(ds.length:Int):=oo;obtain⟨g,o,rfl,hL,hcap⟩:=(OX.o.below nZ.fair BR.o nl).here (by rintro rfl;simp at hlt);obtain⟨hgB,vv,c0,c1,c2,hvv,hps⟩:=hL.dec (i:=i) hlt;have HT:Hid (((ds.take (i+1)).filter (kK p)).map kD=((ds.take i).filter (kK p)).map kD++(if kK p ds[i]=true then [kD ds[i]] else [])):=Df hlt;have hdz:=Qr ds i hlt;have hkd:=HK.o ds[i] (List.getElem_mem _);obtain⟨d,hd⟩:∃d,d=ds[i]:=⟨_,rfl⟩;rw[<-hd]at c0 c2 hvv hps HT hdz hkd;have HVV:Hid (Sl (fun b=>b<w1.heap.size) wr vv d.val):=hvv;have Ol:Hid (JR d.val):=hkd;have hvl:=hvv.len;obtain⟨va,vc,rfl⟩:=hvv.form;clear hL hd hvv hkd;have hzl:(((ds.take i).filter (kK p)).map kD).length<=i:=by rw[List.length_map];exact Nat.le_trans (List.length_filter_le _ _) (by rw[List.length_take];omega)
   obtain⟨ps,yZ⟩:∃ps,Hid (((ds.take i).filter (kK p)).map kD=ps):=⟨_,hid rfl⟩;rw[yZ.o]at O1 HT hzl;have D2:Hid (Q3 229 (wr.alloc (.cells #[.string d.prop,.slice va d.val.length vc,.bool d.imp] 229)) wr.heap.size (.string d.prop) (.slice va d.val.length vc) (.bool d.imp)):=Q3.new _ _ _ _ _;have X2:Hid (Below wr.heap.size wr (wr.alloc (.cells #[.string d.prop,.slice va d.val.length vc,.bool d.imp] 229))):=(Below.refl _ _).alloc nl _;go_upto_region 5 with fail
   generalize wr.alloc (.cells #[.string d.prop,.slice va d.val.length vc,.bool d.imp] 229)=w2 at *;obtain⟨gt,oU⟩:∃gt,Hid (wr.heap.size=gt):=⟨_,hid rfl⟩;have D3:Hid (Q3 229 w2 gt (.string d.prop) (.slice va d.val.length vc) (.bool d.imp)):=by rw[<-oU.o];exact D2.o
   rw[oU.o];clear D2 c0 c1 c2;have B2:Hid (Below w1.heap.size w1 w2):=BR.o.trans (X2.o.mono hsr);have hs2:=X2.o.size;have O2:Hid (w2.ownsRow w1.heap.size 9 1 u ps.length (ps.map Value.string)):=aX O1.o fun r hr=>X2.o.block r (O1.o.lt r hr).2;obtain⟨a0,a1,a2⟩:=D3.o.cs;have Q2:=Q1.o.below B2.o oo;obtain⟨q0,q1,q2,q3,q4,q5⟩:=Q2.cs;clear Q2;have HDK:Hid (kK p d=((if custom d.prop=true then p.aO else p.props.contains d.prop)&&bV p d.val&&!d.val.isEmpty)):=rfl;have NO:Hid (∀wx,Below w2.heap.size w2 wx->kK p d=false->(wx.ownsRow w1.heap.size 9 1 u (((ds.take (i+1)).filter (kK p)).map kD).length ((((ds.take (i+1)).filter (kK p)).map kD).map Value.string))/\Below w1.heap.size w1 wx):=by intro wx hb hf;refine⟨?_,B2.o.trans (hb.mono oo)⟩;rw[HT.o,if_neg (by rw[hf];simp),List.append_nil];exact aX O2.o fun r hr=>hb.block r (O2.o.lt r hr).2
   by_cases hv0:d.val.length=0
   .have HF:Hid (kK p d=false):=by
     show _=_;rw[HDK.o,List.eq_nil_of_length_eq_zero hv0];simp
    have hvi:¬(0:Int)<(d.val.length:Int):=oo;have hvd:decide ((0:Int)<(d.val.length:Int))=false:=decide_eq_false hvi;clear hv0;go_wp2_with fail;go_roundg(gk-1);case measure=>omega
    case rel=>exact⟨u,i+1,rfl,by congr 1,oo,NO.o _ (Below.refl _ _) HF.o⟩
   .have hvi:(0:Int)<(d.val.length:Int):=oo;have HNE:Hid (d.val.isEmpty=false):=by
     show _=_;cases hq:d.val with
     |nil=>rw[hq]at hv0;simp at hv0
     |cons _ _=>rfl
    have DY:=DC w1.heap.size p (.slice pa p.props.length pc) (.slice fa p.au.length fc) (.slice aa p.ats.length ac) w2 d.prop (UR.o.below B2.o nl);obtain⟨z1,Hz1⟩:∃z,Hid ((if custom d.prop=true then p.aO else p.props.contains d.prop)=z):=⟨_,hid rfl⟩;rw[Hz1.o]at DY HDK;unfold dD at DY;have adM:Hid (Calls prog 179 #[.agg #[.string p.root,.slice pa p.props.length pc,.slice fa p.au.length fc,.slice aa p.ats.length ac,.bool p.aO,.bool p.texts],.string d.prop] w2 fun e w'=>e=.returned (.bool z1)/\Below w2.heap.size w2 w'):=DY;clear DY hv0;go_wp2_with fail;refine adM.o.mono ?_;rintro e w3 ⟨rfl,hb3⟩;have X3:Hid (Below w2.heap.size w2 w3):=hb3;have D4:Hid (Q3 229 w3 gt (.string d.prop) (.slice va d.val.length vc) (.bool d.imp)):=D3.o.below hb3;have hs3:=hb3.size;clear hb3 a0 a1 a2 q0 q1 q2 q3 q4 q5 adM;obtain⟨a0,a1,a2⟩:=D4.o.cs
    have B3:Hid (Below w1.heap.size w1 w3):=B2.o.trans (X3.o.mono oo);have Wj:=Q1.o.below B3.o oo;obtain⟨q0,q1,q2,q3,q4,q5⟩:=Wj.cs;clear Wj;cases z1
    .have HF:Hid (kK p d=false):=HDK.o;go_wp2_with fail;go_roundg(gk-1);case measure=>omega
     case rel=>exact⟨u,i+1,rfl,by congr 1,oo,NO.o _ X3.o HF.o⟩
    .have HHM:=Af d.val w1.heap.size p (.slice pa p.props.length pc) (.slice fa p.au.length fc) (.slice aa p.ats.length ac) (.slice va d.val.length vc) w3 (UR.o.below B3.o nl) ((HVV.o.below X2.o oo).below X3.o oo) Ol.o;obtain⟨z2,KI⟩:∃z,Hid (bV p d.val=z):=⟨_,hid rfl⟩;rw[KI.o]at HHM HDK;unfold dD at HHM;have adN:Hid (Calls prog 99 #[.agg #[.string p.root,.slice pa p.props.length pc,.slice fa p.au.length fc,.slice aa p.ats.length ac,.bool p.aO,.bool p.texts],.slice va d.val.length vc] w3 fun e w'=>e=.returned (.bool z2)/\Below w3.heap.size w3 w'):=HHM;clear HHM;go_wp2_with fail;refine adN.o.mono ?_;rintro e w4 ⟨rfl,hb4⟩;have X4:Hid (Below w2.heap.size w2 w4):=X3.o.trans (hb4.mono hs3);have D5:Hid (Q3 229 w4 gt (.string d.prop) (.slice va d.val.length vc) (.bool d.imp)):=D4.o.below hb4;have hs4:=X4.o.size
     clear hb4 a0 a1 a2 q0 q1 q2 q3 q4 q5 adN;obtain⟨a0,a1,a2⟩:=D5.o.cs;cases z2
     .have HF:Hid (kK p d=false):=HDK.o;go_wp2_with fail;go_roundg(gk-1);case measure=>omega
      case rel=>exact⟨u,i+1,rfl,by congr 1,oo,NO.o _ X4.o HF.o⟩
     .have HF:Hid (kK p d=true):=by show _=_;rw[HDK.o,HNE.o];rfl
      have hwz:fB d.val<=549755813888:=by unfold dz at hdz;omega
      have qy:=Iq w1.heap.size d (.slice va d.val.length vc) w4 ((HVV.o.below X2.o oo).below X4.o oo) oo hps hwz;have adO:Hid (Calls prog 180 #[.agg #[.string d.prop,.slice va d.val.length vc,.bool d.imp]] w4 fun e w'=>e=.returned (.string (kD d))/\Below w4.heap.size w4 w'):=qy;clear qy;go_wp2_with fail;refine adO.o.mono ?_;obtain⟨y,Hy⟩:∃y,Hid (kD d=y):=⟨_,hid rfl⟩;rw[Hy.o];rintro e w5 ⟨rfl,hb5⟩;have X5:Hid (Below w2.heap.size w2 w5):=X4.o.trans (hb5.mono hs4);have B5:Hid (Below w1.heap.size w1 w5):=B2.o.trans (X5.o.mono oo);have O5:Hid (w5.ownsRow w1.heap.size 9 1 u ps.length (ps.map Value.string)):=aX O2.o fun r hr=>X5.o.block r (O2.o.lt r hr).2;have hs5:=B5.o.size;clear hb5 adO a0 a1 a2
      go_wp2_with(at_builtin;go_must(refine wpList_append_own _ rfl _ _ 22 rfl w1.heap.size 9 iS (.string ⟨#[]⟩) 1 16 Tryz.underlying22 HI.o.1 HI.o.2.1 HI.o.2.2.1 HI.o.2.2.2 rfl oo u ps.length (ps.map Value.string) rfl (O5.o.alloc _) ⟨w5.heap.size,0,none⟩ 1 1 [.string y] rfl rfl (cell_one_new _ _ _) (bf _) (by unfold maxLen;omega) oo (by simp;omega) ?_));intro v6 w6 hown6 jO _;have O6:Hid (w6.ownsRow w1.heap.size 9 1 v6 (((ds.take (i+1)).filter (kK p)).map kD).length ((((ds.take (i+1)).filter (kK p)).map kD).map Value.string)):=by show World.ownsRow _ _ _ _ _ _ _;rw[HT.o,if_pos HF.o,Hy.o];first|(rw[List.length_append,List.map_append];exact hown6)|simpa using hown6
      have B6:Hid (Below w1.heap.size w1 w6):=(B5.o.alloc hs5 _).grown jO (by simp;omega) (fun rr hr=>(O5.o.lt rr hr).1);clear hown6 jO;go_wp2_with fail;go_roundg(gk-1);case measure=>omega
      case rel=>exact⟨v6,i+1,rfl,by congr 1,oo,O6.o,B6.o⟩
  .have h1:(ds.length:Int)<=(i:Int):=oo;have O5:Hid (wr.ownsRow w1.heap.size 9 1 u ((ds.filter (kK p)).map kD).length (((ds.filter (kK p)).map kD).map Value.string)):=by
    have:=O1.o;rw[List.take_of_length_le oo]at this;exact this
   obtain⟨ps,yZ⟩:∃ps,Hid ((ds.filter (kK p)).map kD=ps):=⟨_,hid rfl⟩;have hpl:ps.length=(ds.filter (kK p)).length:=by rw[<-yZ.o,List.length_map]
   have hpf:(ds.filter (kK p)).length<=ds.length:=List.length_filter_le _ _;rw[yZ.o]at O5 htot HBO;go_wp2_with fail;refine(Fz (b1 59) ps w1.heap.size u _ O5.o oo (by unfold WS;show _+ps.length*1<=_;omega)).mono ?_;rw[HBO.o];rintro e w5 ⟨rfl,hb5⟩;have B5:Hid (Below rb w w5):=B0.o.trans ((B1.o.trans ((BR.o.trans (hb5.mono hsr)).mono hs1)).mono hsz0);clear hb5;go_wp2_with fail;go_ret;exact⟨rfl,by rw[mF.o];exact B5.o⟩
section
attribute [local go_sem] dH dI bQ bT
theorem Uy{nm:ByteArray}(h:nm≠aA)(lv:Value)(p:Nat):jE 116 nm aA aA lv p=.iface 301 (.agg #[.string nm]):=by unfold jE;rw[if_pos rfl,if_neg h]
theorem Qs(lv:Value)(p:Nat):jE 116 aA aA aA lv p=.iface 303 (.agg #[]):=by unfold jE;rw[if_pos rfl,if_pos rfl]
theorem XE{s:ByteArray}(h:0<s.size):small s≠aA:=by
 intro e;have:=congrArg ByteArray.size e;have e2:(small s).size=s.size:=by show(s.data.toList.map jF).toArray.size=s.data.size;rw[List.size_toArray,List.length_map,Array.length_toList]
 rw[e2]at this;have:s.size=0:=this;omega
theorem Qu{rec:List Nd->Option fC}{l:List Nd}(nk:¬(hdN l).t.kind=14)(h:ay (hdN l).t (b1 42)=false):aJ rec l=bD rec [] l:=by
 unfold aJ oW;cases l with
 |nil=>rfl
 |cons n r=>have nk':¬n.t.kind=14:=nk;have h':ay n.t (b1 42)=false:=h;simp only[dY,h',Bool.false_eq_true,if_false,if_neg nk']
theorem Qv{rec:List Nd->Option fC}{l:List Nd}(nk:¬(hdN l).t.kind=14)(h:ay (hdN l).t (b1 42)=true):aJ rec l=bD rec [Simple.of 116 aA] l.tail/\1+l.tail.length<=l.length:=by
 unfold aJ oW;cases l with
 |nil=>rw[vG]at h;cases h
 |cons n r=>have nk':¬n.t.kind=14:=nk;have h':ay n.t (b1 42)=true:=h;simp only[dY,h',if_true,if_neg nk',List.tail_cons,List.length_cons,true_and];omega
theorem Jk{rec:List Nd->Option fC}{l:List Nd}(hk:(hdN l).t.kind=14):aJ rec l=bD rec [Simple.of 116 (small (hdN l).t.word)] l.tail/\1+l.tail.length<=l.length/\∃n r,l=n::r:=by
 unfold aJ oW;cases l with
 |nil=>exact absurd hk (by decide)
 |cons n r=>have hk':n.t.kind=14:=hk;simp only[if_pos hk',List.tail_cons,List.length_cons];exact⟨rfl,oo,_,_,rfl⟩
def NmL(l:List Nd):Prop:=∀n∈l,n.t.kind=14->0<n.t.word.size
theorem rM(w:World)(x:Value)(t:TypeId):∀j u,[x][j]?=some u->(w.alloc (.cells #[x] t)).cell? ((⟨w.heap.size,0,none⟩:Addr).add j)=some u:=by intro j u hu;rw[Addr.add_lit,Nat.zero_add,World.cell?_alloc_mark,<-hu];simp
theorem Qw(f:Nat)(hR:Io f)(B b:Nat)(sv:Value)(l:List Nd)(w:World)(h:iw B w b sv l)(hd:rJ f l)(hnm:NmL l):
  Calls prog 188 #[.pointer (some ⟨b,0,none⟩)] w fun e w'=>cpP f (aJ (aY f) l) B b w w' e/\Turn b w w':=by
 have R1:Hid (iw B w b sv l):=h;have HR:Hid (Io f):=hR;have HD:Hid (rJ f l):=hd;have Y1:Hid (NmL l):=hnm;have hbw:b<w.heap.size:=h.lt;have Cc:=h.len;clear h hR hd hnm;obtain⟨iT,hiT⟩:=Us;have HI:Hid (prog.info? 207=some iT/\iT.zero=some .nilIface/\iT.size=1/\iT.bytes=16):=hiT;clear hiT;go_in;go_wp2_with fail;refine(Ef B b _ l _ R1.o).mono ?_;rintro e w1 ⟨kv1,rfl,_,hb1⟩;have R2:Hid (iw B w1 b sv l):=R1.o.below hb1;have T2:Hid (Turn b w w1):=Turn.of_below hb1;clear hb1 R1;unfold dM;go_upto_if 11 with fail;go_cut [4] (fun s4 wx=>∃(u:Value) (acc:List Simple) (cur:List Nd),u=s4/\acc.length+cur.length<=600/\Aside (CpI f B b w l u acc cur wx));case first=>
  cases hk:((hdN l).t.kind==14)
  .have nk:¬(hdN l).t.kind=14:=by simpa using hk
   go_wp2_with fail;refine(oq B b _ l (b1 42) _ R2.o).mono ?_;rintro e w3 ⟨BM,rfl,AY,J5⟩;have T3:Hid (Turn b w w3):=T2.o.trans J5;have hs3:=T3.o.size;clear J5;obtain⟨s1,DW⟩:∃s,Hid (ay (hdN l).t (b1 42)=s):=⟨_,hid rfl⟩;rw[DW.o];cases s1
   .have XF:iw B w3 b BM l:=by rw[vX DW.o]at AY;exact AY
    have HC:Hid (CpI f B b w l (.slice none 0 0) [] l w3):=⟨MG.nil _ _ _ _ _,⟨BM,XF⟩,T3.o,Qu nk DW.o,HD.o,by simp⟩;clear AY XF nk;go_wp2_with fail;go_meet
    exact⟨_,[],l,rfl,by simpa using Cc,HC.o⟩
   .have XF:iw B w3 b BM l.tail:=by rw[pW DW.o]at AY;exact AY
    have R3:Hid (iw B w3 b BM l.tail):=XF;have HE:Hid (aJ (aY f) l=bD (aY f) [Simple.of 116 aA] l.tail/\1+l.tail.length<=l.length):=Qv nk DW.o;clear AY XF nk;have M0:=MG.nil (dF f) 1 207 w.heap.size w3;go_wp2_with(at_builtin;go_must(refine wpList_append_own_at _ rfl _ _ 202 rfl w.heap.size 207 iT .nilIface 1 16 Tryz.underlying202 HI.o.1 HI.o.2.1 HI.o.2.2.1 HI.o.2.2.2 rfl oo (.slice none 0 0) 0 [] rfl (World.ownsRow_nil _ _ _ _) ⟨w3.heap.size,0,none⟩ 1 1 [.iface 303 (.agg #[])] rfl rfl (rM _ _ _) (by simp[Value.oneCell']) (by unfold maxLen;omega) oo (by simp;omega) ?_));intro v4 w4 hown4 bG _ fK;have hb4:Below w.heap.size w3 w4:=((Below.refl _ _).alloc hs3 _).grown bG (by simp;omega) (fun rr hr=>by simp[Value.ownBlock]at hr)
    have HC:Hid (CpI f B b w l v4 [Simple.of 116 aA] l.tail w4):=⟨MG.snoc (dF.fair f) (l:=[]) (cs:=[]) rfl (by have:=dF.plain f (oO w.heap.size (w3.alloc (.cells #[.iface 303 (.agg #[])] 207)) (.slice none 0 0)) (w3.alloc (.cells #[.iface 303 (.agg #[])] 207)) 116 aA aA aA 0;rw[Qs]at this;exact this) hown4 bG (by simpa using fK),⟨BM,by have hr:=R3.o.alloc (.cells #[.iface 303 (.agg #[])] 207);exact⟨by rw[bG.block b (by simp;omega) (by simp[Value.ownBlock])];exact hr.blk,hr.sl.keep (fun _ hg=>hg) (fun g hg=>by have hg':g<B:=hg;have:=hr.lo;exact bG.block g (by simp;omega) (by simp[Value.ownBlock])),hr.lo⟩⟩,T3.o.trans' hb4,HE.o.1,HD.o.tail,by simpa using HE.o.2⟩
    have hle:1+l.tail.length<=600:=by have:=HE.o.2;omega
    clear hown4 bG fK hb4 M0;go_wp2_with fail;go_meet
    exact⟨_,_,_,rfl,by simpa using hle,HC.o⟩
  .have nk:(hdN l).t.kind=14:=by simpa using hk
   obtain⟨tg,Htg⟩:∃t,Hid (small (hdN l).t.word=t):=⟨_,hid rfl⟩;have HE:Hid (aJ (aY f) l=bD (aY f) [Simple.of 116 tg] l.tail/\1+l.tail.length<=l.length):=by have:=Jk (rec:=aY f) nk;rw[Htg.o]at this;exact⟨this.1,this.2.1⟩
   have HT:Hid (tg≠aA):=by rw[<-Htg.o];obtain⟨n,r,e⟩:=(Jk (rec:=aY f) nk).2.2;refine XE ?_;rw[e]at nk⊢;exact Y1.o n (by rw[e];simp) nk
   have hwd:=HD.o.hd.2;clear nk;obtain⟨n,Hn⟩:∃n,Hid (hdN l=n):=⟨_,hid rfl⟩;rw[Hn.o]at Htg hwd hk;go_wp2_with fail;refine(qE B b _ l _ R2.o).mono ?_;rw[Hn.o];rintro e w3 ⟨kv3,BM,rfl,_,AY,J5⟩;have R3:Hid (iw B w3 b BM l.tail):=AY;have T3:Hid (Turn b w w3):=T2.o.trans J5;clear AY J5;unfold dM;go_wp2_with fail;refine(oH n.t.word _ hwd).mono ?_;rw[Htg.o];rintro e w5 ⟨rfl,hb5⟩;have R5:Hid (iw B w5 b BM l.tail):=R3.o.below hb5;have T5:Hid (Turn b w w5):=T3.o.trans (Turn.of_below hb5);have hs5:=T5.o.size;clear hb5 R3 T3
   go_wp2_with(at_builtin;go_must(refine wpList_append_own_at _ rfl _ _ 202 rfl w.heap.size 207 iT .nilIface 1 16 Tryz.underlying202 HI.o.1 HI.o.2.1 HI.o.2.2.1 HI.o.2.2.2 rfl oo (.slice none 0 0) 0 [] rfl (World.ownsRow_nil _ _ _ _) ⟨w5.heap.size,0,none⟩ 1 1 [.iface 301 (.agg #[.string tg])] rfl rfl (rM _ _ _) (by simp[Value.oneCell']) (by unfold maxLen;omega) oo (by simp;omega) ?_));intro v4 w4 hown4 bG _ fK;have hb4:Below w.heap.size w5 w4:=((Below.refl _ _).alloc hs5 _).grown bG (by simp;omega) (fun rr hr=>by simp[Value.ownBlock]at hr)
   have HC:Hid (CpI f B b w l v4 [Simple.of 116 tg] l.tail w4):=⟨MG.snoc (dF.fair f) (l:=[]) (cs:=[]) rfl (by have:=dF.plain f (oO w.heap.size (w5.alloc (.cells #[.iface 301 (.agg #[.string tg])] 207)) (.slice none 0 0)) (w5.alloc (.cells #[.iface 301 (.agg #[.string tg])] 207)) 116 tg aA aA 0;rw[Uy HT.o]at this;exact this) hown4 bG (by simpa using fK),⟨BM,by have hr:=R5.o.alloc (.cells #[.iface 301 (.agg #[.string tg])] 207);exact⟨by rw[bG.block b (by simp;omega) (by simp[Value.ownBlock])];exact hr.blk,hr.sl.keep (fun _ hg=>hg) (fun g hg=>by have hg':g<B:=hg;have:=hr.lo;exact bG.block g (by simp;omega) (by simp[Value.ownBlock])),hr.lo⟩⟩,T5.o.trans' hb4,HE.o.1,HD.o.tail,by simpa using HE.o.2⟩
   have hle:1+l.tail.length<=600:=by have:=HE.o.2;omega
   clear hown4 bG fK hb4;go_wp2_with fail;go_meet
   exact⟨_,_,_,rfl,by simpa using hle,HC.o⟩
 case rest=>
 obtain⟨u,acc,cur,rfl,hlen,hA⟩:=hcut;have HC0:Hid (CpI f B b w l u acc cur wc):=hA.o;clear hA R2 T2 Y1;go_wp2_with fail;go_loopg[4] cur.length (fun gg v4 wr=>∃(u:Value) (acc:List Simple) (cur:List Nd),u=v4/\gg=cur.length/\acc.length+cur.length<=600/\Aside (CpI f B b w l u acc cur wr));case atStart=>exact⟨u,acc,cur,rfl,rfl,hlen,HC0.o⟩
 case round=>
  obtain⟨u,acc,cur,rfl,rfl,hlen,hA⟩:=hrel;have HC:Hid (CpI f B b w l u acc cur wr):=hA.o;clear hA HC0;obtain⟨ua,uc,rfl⟩:=HC.o.row.form;obtain⟨sv1,hR1⟩:=HC.o.rdr;have R1:Hid (iw B wr b sv1 cur):=hR1;clear hR1;have hsr:=HC.o.turn.size;go_wp2_with fail;refine pmb (Ij B b _ cur _ R1.o) fun w2 hb2=>?_;have R2:Hid (iw B w2 b sv1 cur):=R1.o.below hb2;have T2:Hid (Turn b w w2):=HC.o.turn.trans (Turn.of_below hb2);have M2:Hid (MG (dF f) 1 207 w.heap.size w2 (.slice ua acc.length uc) acc):=HC.o.row.below (dF.fair f) hb2;clear hb2 R1;obtain⟨fo,Hfo⟩:∃s,Hid (Am (hdN cur).t=s):=⟨_,hid rfl⟩;rw[Hfo.o];cases fo
  .have HV:Hid (aJ (aY f) l=some (acc,cur)):=by
    show _=_;rw[HC.o.eq,vO,Hfo.o];rfl
   go_wp2_with fail;go_ret2
   exact⟨by rw[HV.o];exact⟨_,_,rfl,R2.o,M2.o.sl (dF.fair f) (dF.sized f) oo⟩,T2.o⟩
  .have hcn:cur≠[]:=by
    rintro rfl;have:=Hfo.o;rw[FY]at this;cases this
   have HS:Hid (aJ (aY f) l=match jf (aY f) cur with|none=>none|some (s,r)=>bD (aY f) (acc++[s]) r):=by show _=_;rw[HC.o.eq,vO,Hfo.o];rfl
   have qy:Hid (rJ f cur/\acc.length+cur.length<=l.length):=⟨HC.o.dep,HC.o.len⟩;have hs2:=T2.o.size;clear HC;go_wp2_with fail;refine(abY f HR.o B b _ cur w2 R2.o qy.o.1).mono ?_;rintro e w3 ⟨hp,J5⟩;have T3:Hid (Turn b w w3):=T2.o.trans J5;have M3:Hid (MG (dF f) 1 207 w.heap.size w3 (.slice ua acc.length uc) acc):=M2.o.turn (dF.fair f) J5 hbw;have hs3:=J5.size;clear J5;unfold ptP at hp;cases hq:jf (aY f) cur with
   |none=>
    rw[hq]at hp;obtain⟨pv,BM,l3,rfl,AY⟩:=hp;have R3:Hid (iw B w3 b BM l3):=AY;have HV:Hid (aJ (aY f) l=none):=by show _=_;rw[HS.o,hq]
    clear hq AY;go_wp2_with fail;go_ret2
    exact⟨by rw[HV.o];exact⟨_,_,_,rfl,R3.o⟩,T3.o⟩
   |some sr=>
    obtain⟨s,r⟩:=sr;rw[hq]at hp;obtain⟨pv,BM,rfl,AY,hps⟩:=hp;obtain⟨pT,pu,rfl⟩:=hps.form;have R3:Hid (iw B w3 b BM r):=AY;have HV:Hid (aJ (aY f) l=bD (aY f) (acc++[s]) r):=by show _=_;rw[HS.o,hq]
    have hrl:=(yU hq hcn).1;have HDR:Hid (rJ f r):=(yU hq hcn).2 f qy.o.1;have PA:∀o,Hid (dF f (oO w.heap.size (w3.alloc o) (.slice ua acc.length uc)) (w3.alloc o) s [.iface pT pu]):=fun o=>M2.o.apart (dF.fair f) hps hs2 (by simp) (fun g hg=>Below.heap_alloc _ _ _ hg);obtain⟨cs,hown,mG⟩:=(M3.o.alloc (dF.fair f) (.cells #[.iface pT pu] 207));have HO:Hid ((w3.alloc (.cells #[.iface pT pu] 207)).ownsRow w.heap.size 207 1 (.slice ua acc.length uc) acc.length cs):=hown;have HCt:Hid (jv (dF f) (oO w.heap.size (w3.alloc (.cells #[.iface pT pu] 207)) (.slice ua acc.length uc)) (w3.alloc (.cells #[.iface pT pu] 207)) acc cs):=mG;clear hq AY hps hown mG HS hcn
    go_wp2_with(at_builtin;go_must(refine wpList_append_own_at _ rfl _ _ 202 rfl w.heap.size 207 iT .nilIface 1 16 Tryz.underlying202 HI.o.1 HI.o.2.1 HI.o.2.2.1 HI.o.2.2.2 rfl oo (.slice ua acc.length uc) acc.length cs rfl HO.o ⟨w3.heap.size,0,none⟩ 1 1 [.iface pT pu] rfl rfl (rM _ _ _) (by simp[Value.oneCell']) (by unfold maxLen;omega) oo (by simp;omega) ?_));intro v4 w4 hown4 bG _ fK;have hlo:∀rr,Value.ownBlock (.slice ua acc.length uc)=some rr->w.heap.size<=rr:=fun rr hr=>(HO.o.lt rr hr).1;have hb4:Below w.heap.size w3 w4:=((Below.refl _ _).alloc oo _).grown bG (by simp;omega) hlo;have Du:Hid (CpI f B b w l v4 (acc++[s]) r w4):=⟨MG.snoc (dF.fair f) HCt.o (PA _).o hown4 bG (by simpa using fK),⟨BM,by have hr:=R3.o.alloc (.cells #[.iface pT pu] 207);exact⟨by rw[bG.block b (by simp;omega) (fun e=>by have:=hlo b e.symm;omega)];exact hr.blk,hr.sl.keep (fun _ hg=>hg) (fun g hg=>by have hg':g<B:=hg;have:=hr.lo;exact bG.block g (by simp;omega) (fun e=>by have:=hlo g e.symm;omega)),hr.lo⟩⟩,T3.o.trans' hb4,HV.o,HDR.o,by have:=qy.o.2;simp;omega⟩
    clear hown4 bG fK hb4 hlo;go_wp2_with fail;go_roundg r.length;case measure=>omega
    case rel=>exact⟨v4,acc++[s],r,rfl,rfl,by simp;omega,Du.o⟩
end
end Go.Proofs.YtlliliddljkbfaaGreatDoor
