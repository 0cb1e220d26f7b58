import Derived.Test.YtlliliddljkbfaaGreatDoorC44
namespace Go.Proofs.YtlliliddljkbfaaGreatDoor
set_option maxHeartbeats 64000000
set_option maxRecDepth 100000
open Go.Proofs.Tryz (prog)
open Go.RowKit Sp
theorem tJ.later{p:aS}{pv fv av:Value}{rs:List Rule}{ro:ByteArray}{w w':World}(h:tJ p pv fv av rs ro w)(hb:Below w.heap.size w w'):tJ p pv fv av rs ro w':=fun u w'' hb2 hs=>h u w'' (hb.trans (hb2.mono hb.size)) hs
def kV(p:aS)(rec:List Nd->ByteArray)(r:Rule):ByteArray:=match r.at_ with|some x=>yX p x r.body.isSome r.head (rec (r.body.getD []))|none=>Gg p r.head (r.body.getD [])
structure Dh(p:aS)(pv fv av:Value)(rec:List Nd->ByteArray)(w:World)(r:Rule):Prop where
 okh:jG r.head
 kdh:JR r.head
 body:r.at_=none->r.body.isSome=true
 wz:fB (bare r.head)<=274877906944
 sel:∀ss,zx r.head=some ss->zL ss<=274877906944
 dk:r.at_=none->∀d∈decls (r.body.getD []),JR d.val
 dz:r.at_=none->F7 (decls (r.body.getD []))<=274877906944
 rsz:(rec (r.body.getD [])).size<=549755813888
 rok:∀x b,r.at_=some x->r.body=some b->tJ p pv fv av (rules false b) (rec b) w
theorem Dh.later{p:aS}{pv fv av:Value}{rec:List Nd->ByteArray}{w w':World}{r:Rule}(h:Dh p pv fv av rec w r)(hb:Below w.heap.size w w'):Dh p pv fv av rec w' r:=⟨h.okh,h.kdh,h.body,h.wz,h.sel,h.dk,h.dz,h.rsz,fun x b h1 h2=>(h.rok x b h1 h2).later hb⟩
theorem LG.rul{S:Nat->Prop}{w:World}{l:List Rule}{g o i:Nat}(h:LG kL 4 S w l g o)(hi:i<l.length):S g/\∃hv bv bl,w.cell? ⟨g,o+i*4,none⟩=some (.string (l[i].at_.getD aA))/\w.cell? ⟨g,o+i*4+1,none⟩=some hv/\w.cell? ⟨g,o+i*4+2,none⟩=some (.bool l[i].body.isSome)/\w.cell? ⟨g,o+i*4+3,none⟩=some bv/\Sl S w hv l[i].head/\Sl S w bv bl/\(∀b,l[i].body=some b->bl=b)/\(∀x,l[i].at_=some x->x≠aA/\x.size<=4000000):=by obtain⟨h0,cs,⟨hv,bv,bl,rfl,hs,hp,hb,ha⟩,hc⟩:=h.at l g o i hi;refine⟨h0,hv,bv,bl,?_,hc 1 _ rfl,hc 2 _ rfl,hc 3 _ rfl,hs,hp,hb,ha⟩;have:=hc 0 _ rfl;rwa[Nat.add_zero]at this
theorem QA(B:Nat)(p:aS)(pv fv av:Value)(rec:List Nd->ByteArray)(r:Rule)(hv bv:Value)(bl:List Nd)(w:World)(hP:iO B w p pv fv av)(hH:Sl (fun b=>b<B) w hv r.head)(hBl:Sl (fun b=>b<B) w bv bl)(hb:∀b,r.body=some b->bl=b)(ha:∀x,r.at_=some x->x≠aA/\x.size<=4000000)
  (hI:eX w) (hds:ig) (hpr:allB iM p.root=true) (qx:p.root.size<=12) (h:Dh p pv fv av rec w r):
  (r.at_=none->Calls prog 54 #[dD p pv fv av,.agg #[.string aA,hv,.bool r.body.isSome,bv]] w fun e w'=>e=.returned (.string (kV p rec r))/\Below w.heap.size w w') /\
  (∀x,r.at_=some x->Calls prog 53 #[dD p pv fv av,.agg #[.string x,hv,.bool r.body.isSome,bv]] w fun e w'=>e=.returned (.string (kV p rec r))/\Below w.heap.size w w'):=by
 constructor
 .intro hn;have hbs:=h.body hn;obtain⟨b,hbb⟩:=Option.isSome_iff_exists.1 hbs;have hdk:=h.dk hn;have hdz:=h.dz hn;have e:=hb b hbb;subst e;rw[hbb]at hdk hdz;have hv:kV p rec r=Gg p r.head bl:=by unfold kV;rw[hn,hbb];rfl
  rw[hv];exact NT B p pv fv av aA r.body.isSome r.head bl _ bv w hP hH hBl hI hds hpr qx h.okh h.sel hdk hdz
 .intro x hx;have hx2:=ha x hx;have hv:kV p rec r=yX p x r.body.isSome r.head (rec (r.body.getD [])):=by unfold kV;rw[hx]
  rw[hv];refine XI B p pv fv av x r.body.isSome r.head bl _ bv (rec (r.body.getD [])) w hP hH hBl hx2.2 h.kdh h.wz h.rsz (fun hs _ _=>?_);obtain⟨b,hbb⟩:=Option.isSome_iff_exists.1 hs;have e:=hb b hbb;subst e;rw[hbb];exact h.rok x bl hx hbb
theorem Di(B:Nat)(p:aS)(pv fv av:Value)(rec:List Nd->ByteArray)(rs:List Rule)(v:Value)(w:World)(hP:iO B w p pv fv av)(h:SG kL 4 (fun b=>b<B) w v rs)
  (hI:eX w) (hds:ig) (hpr:allB iM p.root=true) (qx:p.root.size<=12) (hr:∀r∈rs,Dh p pv fv av rec w r) (ht:total (rs.map (kV p rec))<=1099511627776):
  Calls prog 24 #[dD p pv fv av,v] w fun e w'=>e=.returned (.string (aB (rs.map (kV p rec))))/\Below w.heap.size w w':=by
 have hB:=hP.lt;have hrl:=h.len;obtain⟨a,cap,rfl⟩:=h.form;obtain⟨pa,pc,rfl⟩:=hP.props.form;obtain⟨fa,fc,rfl⟩:=hP.au.form;obtain⟨aa,ac,rfl⟩:=hP.ats.form;have HR:Hid (∀r∈rs,Dh p (.slice pa p.props.length pc) (.slice fa p.au.length fc) (.slice aa p.ats.length ac) rec w r):=hr;have NQ:Hid (eX w):=hI;have Si:Hid ig:=hds;have HPR:Hid (allB iM p.root=true/\p.root.size<=12):=⟨hpr,qx⟩;have HT:Hid (total (rs.map (kV p rec))<=1099511627776):=ht;obtain⟨iS,uh⟩:=jV;have HI:Hid (prog.info? 9=some iS/\iS.zero=some (.string ⟨#[]⟩)/\iS.size=1/\iS.bytes=16):=uh;clear uh hr hI hds hpr qx ht;obtain⟨B0,Q0⟩:=Q6.nb p pa fa aa pc fc ac w
 have Ot:Hid (iO B (w.alloc (.cells #[.string p.root,.slice pa p.props.length pc,.slice fa p.au.length fc,.slice aa p.ats.length ac,.bool p.aO,.bool p.texts] 51)) p (.slice pa p.props.length pc) (.slice fa p.au.length fc) (.slice aa p.ats.length ac)):=hP.below B0.o hB;have Yy:Hid (SG kL 4 (fun b=>b<B) (w.alloc (.cells #[.string p.root,.slice pa p.props.length pc,.slice fa p.au.length fc,.slice aa p.ats.length ac,.bool p.aO,.bool p.texts] 51)) (.slice a rs.length cap) rs):=h.below kL.fair B0.o hB;clear hP h;unfold dD;go_in;go_upto_region 1 with fail
 have hsz0:=B0.o.size;have hlt0:=Q0.o.lt;generalize w.alloc (.cells #[.string p.root,.slice pa p.props.length pc,.slice fa p.au.length fc,.slice aa p.ats.length ac,.bool p.aO,.bool p.texts] 51)=w0 at *;obtain⟨rb,mF⟩:∃rb,Hid (w.heap.size=rb):=⟨_,hid rfl⟩;rw[mF.o]at B0 Q0 hB hlt0 hsz0⊢;go_wp2_with fail;go_loopg[5,10] rs.length (fun gg v5 v10 wr=>∃(u:Value) (i:Nat),u=v5/\v10=.int .i64 (i:Int)/\i+gg=rs.length/\Aside (wr.ownsRow w0.heap.size 9 1 u ((rs.take i).map (kV p rec)).length (((rs.take i).map (kV p rec)).map Value.string)/\Below w0.heap.size w0 wr));case atStart=>exact⟨_,0,rfl,rfl,oo,World.ownsRow_nil _ _ _ _,Below.refl _ _⟩
 case round=>
  obtain⟨u,i,rfl,rfl,hi,hA⟩:=hrel;have O1:Hid (wr.ownsRow w0.heap.size 9 1 u ((rs.take i).map (kV p rec)).length (((rs.take i).map (kV p rec)).map Value.string)):=hA.o.1;have BR:Hid (Below w0.heap.size w0 wr):=hA.o.2;clear hA;have hsr:=BR.o.size;by_cases hlt:i<rs.length
  .have h1:(i:Int)<(rs.length:Int):=oo;obtain⟨g,o,rfl,hL,hcap⟩:=(Yy.o.below kL.fair BR.o oo).here (by rintro rfl;simp at hlt);obtain⟨hgB,hv,bv,bl,c0,c1,c2,c3,hhv,hbv,hbb,hat⟩:=hL.rul (i:=i) hlt;have HTK:Hid ((rs.take (i+1)).map (kV p rec)=(rs.take i).map (kV p rec)++[kV p rec rs[i]]):=by
    show _=_;rw[List.take_succ_eq_append_getElem hlt,List.map_append];rfl
   have HRR:=HR.o rs[i] (List.getElem_mem _);obtain⟨r,hr⟩:∃r,r=rs[i]:=⟨_,rfl⟩;rw[<-hr]at c0 c2 hhv hbb hat HTK HRR;have HHV:Hid (Sl (fun b=>b<B) wr hv r.head):=hhv;have HBV:Hid (Sl (fun b=>b<B) wr bv bl):=hbv;have HBB:Hid (∀b,r.body=some b->bl=b):=hbb;have HAT:Hid (∀x,r.at_=some x->x≠aA/\x.size<=4000000):=hat;have HRW:Hid (Dh p (.slice pa p.props.length pc) (.slice fa p.au.length fc) (.slice aa p.ats.length ac) rec w r):=HRR;obtain⟨ha,hc,rfl⟩:=hhv.form;obtain⟨ba,bc,rfl⟩:=hbv.form;clear hL hr hhv hbv hbb hat HRR;have hzl:((rs.take i).map (kV p rec)).length<=i:=by rw[List.length_map,List.length_take];omega
   obtain⟨ps,yZ⟩:∃ps,Hid ((rs.take i).map (kV p rec)=ps):=⟨_,hid rfl⟩;rw[yZ.o]at O1 HTK hzl;obtain⟨an,Han⟩:∃an,Hid (r.at_.getD aA=an):=⟨_,hid rfl⟩;obtain⟨hs_,Y2⟩:∃hs_,Hid (r.body.isSome=hs_):=⟨_,hid rfl⟩;rw[Han.o]at c0;rw[Y2.o]at c2;have D2:Hid (Q4 118 (wr.alloc (.cells #[.string an,.slice ha r.head.length hc,.bool hs_,.slice ba bl.length bc] 118)) wr.heap.size (.string an) (.slice ha r.head.length hc) (.bool hs_) (.slice ba bl.length bc)):=Q4.new _ _ _ _ _ _;have X2:Hid (Below wr.heap.size wr (wr.alloc (.cells #[.string an,.slice ha r.head.length hc,.bool hs_,.slice ba bl.length bc] 118))):=(Below.refl _ _).alloc nl _;go_upto_region 5 with fail
   generalize wr.alloc (.cells #[.string an,.slice ha r.head.length hc,.bool hs_,.slice ba bl.length bc] 118)=w2 at *;obtain⟨gt,oU⟩:∃gt,Hid (wr.heap.size=gt):=⟨_,hid rfl⟩;have D3:Hid (Q4 118 w2 gt (.string an) (.slice ha r.head.length hc) (.bool hs_) (.slice ba bl.length bc)):=by rw[<-oU.o];exact D2.o
   rw[oU.o];clear D2 c0 c1 c2 c3;have B2:Hid (Below w0.heap.size w0 w2):=BR.o.trans (X2.o.mono hsr);have BW:Hid (Below rb w w2):=B0.o.trans (B2.o.mono hsz0);have hs2:=X2.o.size;have O2:Hid (w2.ownsRow w0.heap.size 9 1 u ps.length (ps.map Value.string)):=aX O1.o fun r hr=>X2.o.block r (O1.o.lt r hr).2;obtain⟨a0,a1,a2,a3⟩:=D3.o.cs;have Q2:=Q0.o.below B2.o oo;obtain⟨q0,q1,q2,q3,q4,q5⟩:=Q2.cs;clear Q2;have CC:=QA B p (.slice pa p.props.length pc) (.slice fa p.au.length fc) (.slice aa p.ats.length ac) rec r (.slice ha r.head.length hc) (.slice ba bl.length bc) bl w2 (Ot.o.below B2.o oo) (HHV.o.below X2.o oo) (HBV.o.below X2.o oo) HBB.o HAT.o (NQ.o.below (by rw[mF.o];exact BW.o) nl) Si.o HPR.o.1 HPR.o.2 (HRW.o.later (by rw[mF.o];exact BW.o));rw[Y2.o]at CC;obtain⟨y,Hy⟩:∃y,Hid (kV p rec r=y):=⟨_,hid rfl⟩;rw[Hy.o]at CC HTK;unfold dD at CC
   have FIN:Hid (∀(v6:Value) (w6:World),w6.ownsRow w0.heap.size 9 1 v6 (ps.length+1) (ps.map Value.string++[.string y])->w6.ownsRow w0.heap.size 9 1 v6 ((rs.take (i+1)).map (kV p rec)).length (((rs.take (i+1)).map (kV p rec)).map Value.string)):=by intro v6 w6 h6;rw[HTK.o,List.length_append,List.map_append];exact h6
   cases hra:r.at_ with
   |none=>
    have he:an=aA:=by rw[<-Han.o,hra];rfl
    subst he;have CK:Hid (Calls prog 54 #[.agg #[.string p.root,.slice pa p.props.length pc,.slice fa p.au.length fc,.slice aa p.ats.length ac,.bool p.aO,.bool p.texts],.agg #[.string aA,.slice ha r.head.length hc,.bool hs_,.slice ba bl.length bc]] w2 fun e w'=>e=.returned (.string y)/\Below w2.heap.size w2 w'):=CC.1 hra;have XJ:aA.toList=[]:=by rw[fP];rfl
    have hie:(aA.toList==[])=true:=by rw[XJ];rfl
    have aeS:aA.toList.isEmpty=true:=by rw[XJ];rfl
    clear CC hra;go_wp2_with fail;refine CK.o.mono ?_;rintro e w5 ⟨rfl,hb5⟩;have B5:Hid (Below w0.heap.size w0 w5):=B2.o.trans (hb5.mono oo);have O5:Hid (w5.ownsRow w0.heap.size 9 1 u ps.length (ps.map Value.string)):=aX O2.o fun r hr=>hb5.block r (O2.o.lt r hr).2;have hs5:=B5.o.size;clear hb5 CK a0 a1 a2 a3 q0 q1 q2 q3 q4 q5;go_wp2_with(at_builtin;go_must(refine wpList_append_own _ rfl _ _ 22 rfl w0.heap.size 9 iS (.string ⟨#[]⟩) 1 16 Tryz.underlying22 HI.o.1 HI.o.2.1 HI.o.2.2.1 HI.o.2.2.2 rfl oo u ps.length (ps.map Value.string) rfl (O5.o.alloc _) ⟨w5.heap.size,0,none⟩ 1 1 [.string y] rfl rfl (cell_one_new _ _ _) (bf _) (by unfold maxLen;omega) oo (by simp;omega) ?_));intro v6 w6 hown6 jO _;have O6:Hid (w6.ownsRow w0.heap.size 9 1 v6 ((rs.take (i+1)).map (kV p rec)).length (((rs.take (i+1)).map (kV p rec)).map Value.string)):=FIN.o _ _ hown6
    have B6:Hid (Below w0.heap.size w0 w6):=(B5.o.alloc hs5 _).grown jO (by simp;omega) (fun rr hr=>(O5.o.lt rr hr).1);clear hown6 jO;go_wp2_with fail;go_roundg(gk-1);case measure=>omega
    case rel=>exact⟨v6,i+1,rfl,by congr 1,oo,O6.o,B6.o⟩
   |some x=>
    have he:an=x:=by rw[<-Han.o,hra];rfl
    subst he;have CK:Hid (Calls prog 53 #[.agg #[.string p.root,.slice pa p.props.length pc,.slice fa p.au.length fc,.slice aa p.ats.length ac,.bool p.aO,.bool p.texts],.agg #[.string an,.slice ha r.head.length hc,.bool hs_,.slice ba bl.length bc]] w2 fun e w'=>e=.returned (.string y)/\Below w2.heap.size w2 w'):=CC.2 _ hra;have hne:=(HAT.o _ hra).1;have XJ:¬an.toList=[]:=fun e=>hne (by have:=aH an [];rw[e]at this;exact of_decide_eq_true this.symm);have hie:(an.toList==[])=false:=by cases hq:an.toList with|nil=>exact absurd hq XJ|cons _ _=>rfl
    have aeS:an.toList.isEmpty=false:=by cases hq:an.toList with|nil=>exact absurd hq XJ|cons _ _=>rfl
    clear CC hra hne;go_wp2_with fail;refine CK.o.mono ?_;rintro e w5 ⟨rfl,hb5⟩;have B5:Hid (Below w0.heap.size w0 w5):=B2.o.trans (hb5.mono oo);have O5:Hid (w5.ownsRow w0.heap.size 9 1 u ps.length (ps.map Value.string)):=aX O2.o fun r hr=>hb5.block r (O2.o.lt r hr).2;have hs5:=B5.o.size;clear hb5 CK a0 a1 a2 a3 q0 q1 q2 q3 q4 q5;go_wp2_with(at_builtin;go_must(refine wpList_append_own _ rfl _ _ 22 rfl w0.heap.size 9 iS (.string ⟨#[]⟩) 1 16 Tryz.underlying22 HI.o.1 HI.o.2.1 HI.o.2.2.1 HI.o.2.2.2 rfl oo u ps.length (ps.map Value.string) rfl (O5.o.alloc _) ⟨w5.heap.size,0,none⟩ 1 1 [.string y] rfl rfl (cell_one_new _ _ _) (bf _) (by unfold maxLen;omega) oo (by simp;omega) ?_));intro v6 w6 hown6 jO _;have O6:Hid (w6.ownsRow w0.heap.size 9 1 v6 ((rs.take (i+1)).map (kV p rec)).length (((rs.take (i+1)).map (kV p rec)).map Value.string)):=FIN.o _ _ hown6
    have B6:Hid (Below w0.heap.size w0 w6):=(B5.o.alloc hs5 _).grown jO (by simp;omega) (fun rr hr=>(O5.o.lt rr hr).1);clear hown6 jO;go_wp2_with fail;go_roundg(gk-1);case measure=>omega
    case rel=>exact⟨v6,i+1,rfl,by congr 1,oo,O6.o,B6.o⟩
  .have h1:(rs.length:Int)<=(i:Int):=oo;have O5:Hid (wr.ownsRow w0.heap.size 9 1 u (rs.map (kV p rec)).length ((rs.map (kV p rec)).map Value.string)):=by
    have:=O1.o;rw[List.take_of_length_le oo]at this;exact this
   have hpl:(rs.map (kV p rec)).length=rs.length:=List.length_map _;obtain⟨ps,yZ⟩:∃ps,Hid (rs.map (kV p rec)=ps):=⟨_,hid rfl⟩;rw[yZ.o]at O5 HT hpl;go_wp2_with fail;refine pmb (eG ps w0.heap.size u _ O5.o oo HT.o) fun w5 hb5=>?_;have B5:Hid (Below rb w w5):=B0.o.trans ((BR.o.trans (hb5.mono hsr)).mono hsz0);clear hb5;go_wp2_with fail;go_ret;exact⟨iW (by rw[<-yZ.o]),by rw[mF.o];exact B5.o⟩
structure rP(z:Nat)(t:Tok):Prop where
 word:t.word.size<=z
 unit:t.unit.size<=z
 kind:Me t=true
theorem rP.k(z:Nat){n:Int}(h:1<=n/\n<=15):rP z (Tok.k n):=⟨by simp[Tok.k],by simp[Tok.k],by simp[Me,Tok.k,h.1,h.2]⟩
theorem rP.w{z:Nat}{n:Int}{x:ByteArray}(h:1<=n/\n<=15)(hx:x.size<=z):rP z (Tok.w n x):=⟨hx,by simp[Tok.w],by simp[Me,Tok.w,h.1,h.2]⟩
theorem Gh{t:Tok}{n:Int}(h:t.kind=n)(h1:1<=n/\n<=15):Me t=true:=by unfold Me;rw[h];simp[h1.1,h1.2]
theorem UC{s:ByteArray}{i:Nat}(hi:i<s.size)(h:fV s i=true):rP s.size (numeric s i).1:=by
 have h1:=DT h;have h2:=y8 (s:=s) (i:=i) oo;have hz:(s.extract i (dL s i)).size=dL s i-i:=by simp;omega
 unfold numeric;simp only;by_cases h37:pk s (dL s i)=37
 .rw[if_pos h37];exact rP.w oo (by rw[hz];omega)
 rw[if_neg h37];by_cases hb:iq s (dL s i)=true
 .rw[if_pos hb];have hn:=qI s (dL s i);exact⟨by rw[hz];omega,hn,Gh (n:=7) rfl oo⟩
 .rw[if_neg hb];exact rP.w oo (by rw[hz];omega)
theorem aag{s:ByteArray}{i:Nat}:rP s.size (named s i).1:=by
 have hn:=qI s i;unfold named;simp only;split
 .split
  .have h1:=tu s s.size (blk s ((name s i).2+1)) ByteArray.empty;have h2:=tC s s.size (blk s ((name s i).2+1)) ByteArray.empty;simp at h1;unfold link;refine⟨oo,by rw[h2.2];simp,?_⟩;rcases h2.1 with e|e
   .exact Gh e oo
   .exact Gh e oo
  .exact rP.w oo hn
 .exact rP.w oo hn
theorem aah{s:ByteArray}{i:Nat}(hi:i<s.size):rP s.size (token s i).1:=by
 unfold token;split
 .exact rP.k _ oo
 split
 .have h1:=pK s (pk s i) s.size (i+1) ByteArray.empty;have h2:=pO s (pk s i) s.size (i+1) ByteArray.empty;simp at h1;unfold txt;refine⟨oo,by rw[h2.2];simp,?_⟩;rcases h2.1 with e|e
  .exact Gh e oo
  .exact Gh e oo
 split
 .exact rP.w oo (qI s _)
 split
 .exact UC hi ‹_›
 split
 .exact rP.k _ oo
 split
 .exact rP.k _ oo
 split
 .exact rP.w oo (qI s _)
 split
 .exact aag
 .have:=iE hi;exact rP.w oo oo
theorem XK{s:ByteArray}:∀f i,i<=s.size->∀t∈tokF s f i,rP s.size t
 |0,_,_,t,h=>by simp[tokF]at h
 |f+1,i,hi,t,h=>by
  unfold tokF at h;by_cases h0:s.size<=i
  .rw[if_pos h0]at h;simp at h
  .rw[if_neg h0]at h;rcases List.mem_cons.1 h with e|e
   .rw[e];exact aah oo
   .exact XK f _ (rZ (uJ oo)) t e
theorem XL(s:ByteArray):∀f i,(tokF s f i).length<=f
 |0,_=>by simp[tokF]
 |f+1,i=>by
  unfold tokF;split
  .simp
  .have:=XL s f (com s (token s i).2);simp only[List.length_cons];omega
theorem XM(s:ByteArray):∀t∈toks s,rP s.size t:=XK _ _ (rZ (Nat.zero_le _))
theorem Kz(s:ByteArray):(toks s).length<=s.size:=XL _ _ _
mutual
def gN:Nd->Prop
 |.mk t k=>cZ t/\Me t=true/\(closing t=aA->k=[])/\gL k
def gL:List Nd->Prop
 |[]=>True
 |n::r=>gN n/\gL r
end
theorem XO(n:Nd):gN n↔cZ n.t/\Me n.t=true/\(closing n.t=aA->n.kids=[])/\gL n.kids:=by cases n;simp[gN]
theorem KA:∀(l:List Nd),gL l↔∀n∈l,gN n
 |[]=>by simp[gL]
 |m::r=>by simp[gL,KA r]
theorem KC{a b:List Nd}(h:gL b)(hs:∀n∈a,n∈b):gL a:=(KA a).2 fun n hn=>(KA b).1 h n (hs n hn)
mutual
theorem adT:∀(n:Nd),gN n->okN n
 |.mk t k,h=>by simp only[gN]at h;simp only[okN];exact⟨h.1,NU k h.2.2.2⟩
theorem NU:∀(l:List Nd),gL l->jG l
 |[],_=>by simp[jG]
 |n::r,h=>by simp only[gL]at h;exact⟨adT n h.1,NU r h.2⟩
end
mutual
theorem adU:∀(n:Nd),gN n->YS (fun t=>!Me t) n=false
 |.mk t k,h=>by simp only[gN]at h;unfold YS;rw[QB k h.2.2.2,h.2.1];rfl
theorem QB:∀(l:List Nd),gL l->zD (fun t=>!Me t) l=false
 |[],_=>by unfold zD;rfl
 |n::r,h=>by simp only[gL]at h;unfold zD;rw[adU n h.1,QB r h.2];rfl
end
theorem aaK{l:List Nd}(h:gL l):JR l:=QB l h
theorem ab8(n:Nat):∀(e:ByteArray) (ts:List Tok),ts.length<=n->(∀t∈ts,cZ t/\Me t=true)->gL (kids e ts).1:=by
 induction n with
 |zero=>intro e ts h _;obtain rfl:ts=[]:=List.eq_nil_of_length_eq_zero oo;simp[kJ,gL]
 |succ n ih=>
  intro e ts h hok;cases ts with
  |nil=>simp[kJ,gL]
  |cons t r=>
   simp only[List.length_cons]at h;by_cases hc:e≠aA/\ay t e=true
   .simp[qP hc,gL]
   .rw[kQ hc];have hr:∀t∈r,cZ t/\Me t=true:=fun x hx=>hok x (by simp[hx]);have hl:=sH t r;obtain⟨k,hk,hk2⟩:=KW t r;have h1:gL (inside t r).1:=by
     unfold inside;split
     .simp[gL]
     .exact ih _ r oo hr
    have h3:closing t=aA->(inside t r).1=[]:=by intro e;unfold inside;rw[if_pos e]
    have h2:gL (kids e (inside t r).2).1:=ih e _ oo fun x hx=>hr x (by rw[hk2]at hx;exact List.mem_of_mem_drop hx);have h0:=hok t (by simp);simp only[gL,gN];exact⟨⟨h0.1,h0.2,h3,h1⟩,h2⟩
def UY:List Tok->Nat
 |[]=>0
 |t::r=>4*t.word.size+4*t.unit.size+16+UY r
theorem aaL{z:Nat}:∀(ts:List Tok),(∀t∈ts,rP z t)->UY ts<=ts.length*(8*z+16)
 |[],_=>by simp[UY]
 |t::r,h=>by have ih:=aaL r fun x hx=>h x (by simp[hx]);have h0:=h t (by simp);have:=h0.word;have:=h0.unit;simp only[UY,List.length_cons,Nat.add_mul,Nat.one_mul];omega
theorem aai(n:Nat):∀(e:ByteArray) (ts:List Tok),ts.length<=n->fB (kids e ts).1+UY (kids e ts).2<=UY ts:=by
 induction n with
 |zero=>intro e ts h;obtain rfl:ts=[]:=List.eq_nil_of_length_eq_zero oo;simp[kJ,fB,UY]
 |succ n ih=>
  intro e ts h;cases ts with
  |nil=>simp[kJ,fB,UY]
  |cons t r=>
   simp only[List.length_cons]at h;by_cases hc:e≠aA/\ay t e=true
   .rw[qP hc];simp only[fB,UY];omega
   .rw[kQ hc];have hl:=sH t r;have h1:fB (inside t r).1+UY (inside t r).2<=UY r:=by
     unfold inside;split
     .simp[fB]
     .exact ih _ r oo
    have h2:=ih e (inside t r).2 oo;simp only[fB,GH,UY];omega
theorem Sj{s:ByteArray}(hs:s.size<=600):gL (iJ s)/\fB (iJ s)<=4000000:=by have hc:=oD s;have h1:∀t∈toks (clean s),cZ t/\Me t=true:=fun t ht=>⟨J8 oo t ht,(XM _ t ht).kind⟩;refine⟨ab8 _ _ _ nl h1,?_⟩;have h2:=aai _ aA (toks (clean s)) nl;have h3:=aaL (z:=600) (toks (clean s)) (fun t ht=>by have:=XM _ t ht;exact⟨by have:=this.word;omega,by have:=this.unit;omega,this.kind⟩);have h4:=Kz (clean s);have h5:(toks (clean s)).length*(8*600+16)<=600*4816:=Nat.mul_le_mul oo oo;unfold iJ nodes;omega
theorem lF(n:Nd):GH n=4*n.t.word.size+4*n.t.unit.size+16+fB n.kids:=by obtain⟨t,k⟩:=n;unfold GH;rfl
theorem dA(n:Nd)(r:List Nd):fB (n::r)=GH n+fB r:=by conv=>lhs;unfold fB
theorem nT:fB []=0:=by unfold fB;rfl
theorem tK:∀(a b:List Nd),fB (a++b)=fB a+fB b
 |[],b=>by simp[fB]
 |n::r,b=>by rw[List.cons_append,dA,dA,tK r b];omega
theorem KD:∀(a:List Nd),fB a.reverse=fB a
 |[]=>rfl
 |n::r=>by rw[List.reverse_cons,tK,KD r,dA,dA,nT];omega
theorem rQ:∀(l:List Nd),fB (aC l)<=fB l
 |[]=>by unfold aC;exact Nat.le_refl _
 |n::r=>by
  unfold aC;split
  .have:=rQ r;rw[dA];omega
  .exact Nat.le_refl _
theorem kP(l:List Nd):fB (bare l)<=fB l:=by unfold bare kG;rw[KD];have h1:=rQ (aC l).reverse;have h2:=rQ l;rw[KD]at h1;omega
theorem wJ:∀(l:List Nd) (n:Nd),n∈aC l->n∈l
 |[],n,h=>h
 |m::r,n,h=>by
  unfold aC at h;split at h
  .exact List.mem_cons_of_mem _ (wJ r n h)
  .exact h
theorem AB(l:List Nd)(n:Nd)(h:n∈bare l):n∈l:=by unfold bare kG at h;rw[List.mem_reverse]at h;exact wJ _ _ (List.mem_reverse.1 (wJ _ _ h))
theorem Gi(st:Nd->Bool):∀(l:List Nd),fB (bM st l).1+(match (bM st l).2.1 with|none=>0|some b=>GH b)+fB (bM st l).2.2<=fB l
 |[]=>by simp[bM,fB]
 |n::r=>by
  unfold bM;split
  .simp only[nT,dA];omega
  .have:=Gi st r;simp only[dA];omega
theorem AL(st:Nd->Bool):∀(l:List Nd) (m:Nd),m∈(bM st l).1->m∈l
 |[],m,h=>by simp[bM]at h
 |n::r,m,h=>by
  unfold bM at h;split at h
  .simp at h
  .rcases List.mem_cons.1 h with e|e
   .simp[e]
   .exact List.mem_cons_of_mem _ (AL st r m e)
theorem Gj(st:Nd->Bool):∀(l:List Nd) (b:Nd),(bM st l).2.1=some b->b∈l
 |[],b,h=>by simp[bM]at h
 |n::r,b,h=>by
  unfold bM at h;split at h
  .simp at h;simp[h]
  .exact List.mem_cons_of_mem _ (Gj st r b h)
theorem vS(st:Nd->Bool):∀(l:List Nd) (m:Nd),m∈(bM st l).2.2->m∈l
 |[],m,h=>by simp[bM]at h
 |n::r,m,h=>by
  unfold bM at h;split at h
  .exact List.mem_cons_of_mem _ h
  .exact List.mem_cons_of_mem _ (vS st r m h)
theorem UD(w:ByteArray):(je w).size=w.size:=by
 unfold je;split
 .rfl
 .exact lD w
theorem AO(l:List Nd):fB l.dropLast<=fB l:=by
 rcases Rh l with rfl|⟨i,x,rfl⟩
 .exact Nat.le_refl _
 .rw[List.dropLast_concat,tK];omega
theorem UE(v:List Nd):fB (iy v).1<=fB v:=by
 unfold iy;split
 .exact Nat.le_refl _
 .split
  .split
   .exact Nat.le_refl _
   .split
    .have h1:=kP (bare v.dropLast).dropLast;have h2:=AO (bare v.dropLast);have h3:=kP v.dropLast;have h4:=AO v;show fB (bare (bare v.dropLast).dropLast)<=_;omega
    .exact Nat.le_refl _
  .exact Nat.le_refl _
theorem QC(v:List Nd)(n:Nd)(h:n∈(iy v).1):n∈v:=by
 unfold iy at h;split at h
 .exact h
 .split at h
  .split at h
   .exact h
   .split at h
    .exact List.dropLast_subset _ (AB _ _ (List.dropLast_subset _ (AB _ _ h)))
    .exact h
  .exact h
theorem XP{l:List Nd}{d:Dec}(h:dS l=some d):dz d<=fB l/\∀n∈d.val,n∈l:=by
 unfold dS at h;split at h
 .cases h
 .rename_i n r;split at h
  .cases h
  .split at h
   .cases h
   .rename_i c q hq;split at h
    .cases h;have h1:=UE (bare q);have h2:=kP q;have h3:=kP r;rw[hq,dA,lF c]at h3;refine⟨?_,fun m hm=>?_⟩
     .unfold dz;simp only[UD];rw[dA,lF n];omega
     .have:=AB _ _ (QC _ _ hm);exact List.mem_cons_of_mem _ (AB r m (by rw[hq];exact List.mem_cons_of_mem _ this))
    .cases h
theorem AP:∀(f:Nat) (l:List Nd),F7 (jB f l)<=fB l/\∀d∈jB f l,∀n∈d.val,n∈l
 |0,l=>by simp[jB,F7]
 |f+1,[]=>by simp[jB,F7]
 |f+1,n::r=>by
  unfold jB;split
  .have ih:=AP f r;rw[dA];exact⟨oo,fun d hd m hm=>List.mem_cons_of_mem _ (ih.2 d hd m hm)⟩
  split
  .have ih:=AP f (bM (fun m=>aW m||aQ m) r).2.2;have h1:=Gi (fun m=>aW m||aQ m) r;rw[dA];exact⟨oo,fun d hd m hm=>List.mem_cons_of_mem _ (vS _ _ _ (ih.2 d hd m hm))⟩
  .have ih:=AP f (bM aW (n::r)).2.2;have h1:=Gi aW (n::r);have h2:∀d∈jB f (bM aW (n::r)).2.2,∀m∈d.val,m∈n::r:=fun d hd m hm=>vS _ _ _ (ih.2 d hd m hm);simp only;split
   .exact⟨oo,h2⟩
   .rename_i d0 hd0;have h3:=XP hd0;refine⟨by simp only[F7];omega,fun d hd m hm=>?_⟩;rcases List.mem_cons.1 hd with e|e
    .subst e;exact AL _ _ _ (h3.2 m hm)
    .exact h2 d e m hm
theorem DZ(l:List Nd):F7 (decls l)<=fB l/\∀d∈decls l,∀n∈d.val,n∈l:=AP _ l
def rwz(r:Rule):Nat:=4*(r.at_.getD aA).size+16+fB r.head+fB (r.body.getD [])
def DL:List Rule->Nat
 |[]=>0
 |r::q=>rwz r+DL q
theorem Sm:∀(l:List Rule) (r:Rule),r∈l->rwz r<=DL l
 |m::r,n,h=>by
  unfold DL;rcases List.mem_cons.1 h with e|e
  .subst e;omega
  .have:=Sm r n e;omega
structure UF(l:List Nd)(r:Rule):Prop where
 head:∀n∈r.head,n∈l
 body:∀b,r.body=some b->∃n∈l,aQ n=true/\b=n.kids
 sty:r.at_=none->r.body.isSome=true
theorem UF.wide{l l':List Nd}{r:Rule}(h:UF l r)(hs:∀n∈l,n∈l'):UF l' r:=⟨fun n hn=>hs n (h.head n hn),fun b hb=>by obtain⟨n,h1,h2⟩:=h.body b hb;exact⟨n,hs n h1,h2⟩,h.sty⟩
theorem AQ(sh:Bool):∀(f:Nat) (l:List Nd),DL (lU f sh l)<=fB l/\∀r∈lU f sh l,UF l r
 |0,l=>by simp[lU,DL]
 |f+1,[]=>by simp[lU,DL]
 |f+1,n::r=>by
  unfold lU;split
  .have ih:=AQ sh f r;rw[dA];exact⟨oo,fun d hd=>(ih.2 d hd).wide fun m hm=>List.mem_cons_of_mem _ hm⟩
  split
  .have ih:=AQ sh f (bM (fun m=>aW m||aQ m) r).2.2;have h1:=Gi (fun m=>aW m||aQ m) r;have h2:=Gj (fun m=>aW m||aQ m) r;have hb:fB ((dw (bM (fun m=>aW m||aQ m) r).2.1).getD [])<=(match (bM (fun m=>aW m||aQ m) r).2.1 with|none=>0|some b=>GH b):=by
    cases(bM (fun m=>aW m||aQ m) r).2.1 with
    |none=>simp[dw,fB]
    |some b=>
     show fB ((if aQ b=true then some b.kids else none).getD [])<=GH b;by_cases hq:aQ b=true
     .rw[if_pos hq,lF];show fB b.kids<=_;omega
     .rw[if_neg hq];show fB []<=_;rw[nT];exact Nat.zero_le _
   simp only;refine⟨?_,fun d hd=>?_⟩
   .unfold DL rwz;simp only[Option.getD_some];rw[dA,lF n];omega
   .rcases List.mem_cons.1 hd with e|e
    .subst e;refine⟨fun m hm=>List.mem_cons_of_mem _ (AL _ _ _ hm),fun b hbb=>?_,fun h=>by cases h⟩;simp only at hbb;cases hc:(bM (fun m=>aW m||aQ m) r).2.1 with
     |none=>rw[hc]at hbb;simp[dw]at hbb
     |some q=>
      rw[hc]at hbb;have aaj:(if aQ q=true then some q.kids else none)=some b:=hbb;by_cases hq:aQ q=true
      .rw[if_pos hq]at aaj;cases aaj;exact⟨q,List.mem_cons_of_mem _ (h2 q hc),hq,rfl⟩
      .rw[if_neg hq]at aaj;cases aaj
    .exact(ih.2 d e).wide fun m hm=>List.mem_cons_of_mem _ (vS _ _ _ hm)
  .have h1:=Gi aQ (n::r);have h2:=Gj aQ (n::r);have h3:=xY aQ (n::r);simp only;split
   .simp[DL]
   .rename_i b hc;have ih:=AQ sh f (bM aQ (n::r)).2.2;rw[hc]at h1;simp only at h1;refine⟨?_,fun d hd=>?_⟩
    .unfold DL rwz;simp only[Option.getD_some,Option.getD_none];have e:aA.size=0:=rfl;rw[lF]at h1;rw[e];omega
    .rcases List.mem_cons.1 hd with e|e
     .subst e;refine⟨fun m hm=>AL _ _ _ hm,fun q hq=>?_,fun _=>rfl⟩;cases hq;exact⟨b,h2 b hc,h3 b hc,rfl⟩
     .exact(ih.2 d e).wide fun m hm=>vS _ _ _ hm
theorem AU(sh:Bool)(l:List Nd):DL (rules sh l)<=fB l/\∀r∈rules sh l,UF l r:=AQ sh _ l
theorem ab9{l b:List Nd}{r:Rule}(h:UF l r)(hg:gL l)(hb:r.body=some b):gL b/\depth b+1<=depth l:=by
 obtain⟨n,h1,h2,rfl⟩:=h.body b hb;have h3:=(XO n).1 ((KA l).1 hg n h1);have h4:=mP l n h1;have h5:¬closing n.t=aA:=by unfold aQ dY ay at h2;simp only[Bool.and_eq_true,decide_eq_true_eq]at h2;unfold closing;rw[if_neg (by rw[h2.1];omega),if_pos h2.1,h2.2];decide
 rw[mY h5]at h4;exact⟨h3.2.2.2,h4⟩
end Go.Proofs.YtlliliddljkbfaaGreatDoor
