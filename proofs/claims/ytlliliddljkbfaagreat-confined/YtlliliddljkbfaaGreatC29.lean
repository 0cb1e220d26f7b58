import Derived.Test.YtlliliddljkbfaaGreatC28
set_option maxHeartbeats 64000000
set_option maxRecDepth 100000
namespace Go.Proofs.YtlliliddljkbfaaGreat
open Go.Proofs.Tryz (prog)
open Go.RowKit Sp
def Gl(F:lI)(p:aI)(i:Nat)(g:BY->Option jS)(rs:List Rule):BY->Option jS:=rs.foldl (fun g r=>yJ F p r i g) g
def wZ(F:lI)(p:aI)(i:Nat)(g:BY->Option jS)(ss:List (List Rule)):BY->Option jS:=ss.foldl (Gl F p i) g
def okG(r:Rule):Prop:=(r.at_.getD aA=aA->∃bd,r.body=some bd)/\∀ss,lM (depth r.head) r.head=some ss->zL ss<=1000000
theorem akm(F:lI)(p:aI)(a:Option Addr)(cap:Nat)(sv:Av)(sh:List (List Rule))(w:WD)(hp:jZ w.heap.size w p a cap)(hs:SG (One dB 4) 1 (fun b=>b<w.heap.size) w sv sh)(hk:∀s∈sh,∀r∈s,okG r)(hR:∀f,vK f)(hfit:pJ F w):
  Calls prog 36 #[.agg #[.slice a p.length cap],sv] w fun ex w'=>(∃wa wc kb bs,ex=.returned (.agg #[.slice a p.length cap,.slice wa bs.length wc,.map (some kb)])/\aa7 w.heap.size w' p a cap wa wc bs/\mF w.heap.size w' bs (fun i=>wZ F p i (fun _=>none) sh)/\pY 133 w' kb (fun _=>none)/\w.heap.size<=kb/\kb ∉ bs)/\Below w.heap.size w w':=by
 have hmm:=@run_makeMap prog;have hlen:=hp.len;have hl:=hs.len;have HS:=hid hs;have HP:=hid hp;have HK:Hid (∀s∈sh,∀r∈s,okG r):=hk;have HRD:Hid (∀f,vK f):=hR;have HFT:Hid (pJ F w):=hfit;obtain⟨sa,sc,rfl⟩:=hs.form;clear hs hp hk hR hfit
 have I0:Hid (OfI w (.slice a p.length cap) (.slice none 0 0) [] ((((w.alloc (.cells #[.slice a p.length cap] 66)).alloc (.cells #[.slice none 0 0,.slice none 0 0,.map none] 77)).alloc (.map #[] 0)).alloc (.cells #[.slice a p.length cap,.slice none 0 0,.map (some (w.heap.size+1+1))] 77))/\bU ((((w.alloc (.cells #[.slice a p.length cap] 66)).alloc (.cells #[.slice none 0 0,.slice none 0 0,.map none] 77)).alloc (.map #[] 0)).alloc (.cells #[.slice a p.length cap,.slice none 0 0,.map (some (w.heap.size+1+1))] 77)) w.heap.size (.slice a p.length cap) 66):=aeh w _;obtain⟨iT,hiT⟩:=ahf;have HI:Hid (prog.info? 127=some iT/\iT.zero=some (.map none)/\iT.size=1/\iT.bytes=8):=hiT;clear hiT;go_in;go_upto_region 2 with fail
 generalize((((w.alloc (.cells #[.slice a p.length cap] 66)).alloc (.cells #[.slice none 0 0,.slice none 0 0,.map none] 77)).alloc (.map #[] 0)).alloc (.cells #[.slice a p.length cap,.slice none 0 0,.map (some (w.heap.size+1+1))] 77))=w0 at *;have c0:=I0.o.2.c;have J0:=hid I0.o.1;go_wp2_with fail;refine(ajT p.length a cap w0).mono ?_;rintro ex w1 ⟨rfl,hb1⟩;have J1:=hid (J0.o.next hb1);clear hb1 c0 I0 J0;have h30:(p.length:Int)<=30:=oo;go_wp2_with fail;go_loopg[15] p.length (fun gg v15 wr=>∃(u:Av) (bs:List Nat),v15=.int .i64 (bs.length:Int)/\bs.length+gg=p.length/\Aside (OfI w (.slice a p.length cap) u bs wr));case atStart=>exact⟨_,[],rfl,by simp,J1.o⟩
 case round=>
  obtain⟨go,hgo⟩:∃go,go=gk:=⟨_,rfl⟩;obtain⟨u,bs,rfl,hbl,hA⟩:=hrel;have HO:Hid (OfI w (.slice a p.length cap) u bs wr):=hA.o;clear hA;obtain⟨k0,k1,k2⟩:=HO.o.cas.cs;have hsz:=HO.o.size;by_cases hlt:bs.length<p.length
  .have h1:(bs.length:Int)<(p.length:Int):=oo;have z1:wr.frozen? ⟨w.heap.size+1+1+1,1,none⟩=false:=K3.fz HO.o.cas 1;have HRW:Hid (((wr.alloc (.map #[] 0)).alloc (.cells #[.map (some wr.heap.size)] 127)).ownsRow (w.heap.size+4) 127 1 u bs.length (bs.map mpV)):=(HO.o.row.alloc _).alloc _;go_wp2_with(at_builtin;go_must(refine wpList_append_own _ rfl _ _ 74 rfl (w.heap.size+4) 127 iT (.map none) 1 8 Tryz.underlying74 HI.o.1 HI.o.2.1 HI.o.2.2.1 HI.o.2.2.2 rfl oo u bs.length (bs.map mpV) rfl HRW.o ⟨(wr.alloc (.map #[] 0)).heap.size,0,none⟩ 1 1 [.map (some wr.heap.size)] (by simp[Act.eval]) rfl (cell_one_new _ _ _) (by simp[Value.oneCell']) As oo An ?_));intro v4 w4 hown4 dS _;obtain⟨va4,vc4,rfl⟩:=kQ hown4;obtain⟨ua4,uc4,hu4⟩:=kQ HO.o.row
   have J4:Hid (OfI w (.slice a p.length cap) (.slice va4 (bs.length+1) vc4) (bs++[wr.heap.size]) (w4.setCell ⟨w.heap.size+1+1+1,1,none⟩ (.slice va4 (bs.length+1) vc4))):=HO.o.more rfl hown4 dS;have hc3:some (w.heap.size+1+1+1)≠u.ownBlock:=fun e=>by have:=(HO.o.row.lt _ e.symm).1;omega
   have K4:Hid (K3 w4 (w.heap.size+1+1+1) (.slice a p.length cap) u (.map (some (w.heap.size+1+1)))):=by show _=_;rw[dS.block _ (by simp;omega) hc3,Below.heap_alloc _ _ _ An,Below.heap_alloc _ _ _ oo];exact HO.o.cas
   clear k0 k1 k2 z1 hown4 dS hc3;subst hu4;obtain⟨k0,k1,k2⟩:=K4.o.cs;have z1:=K3.fz K4.o 1;go_wp2_with fail;go_roundg(go-1);case measure=>omega
   case rel=>exact⟨_,bs++[wr.heap.size],by simp,by simp;omega,J4.o⟩
  .have h1:(p.length:Int)<=(bs.length:Int):=oo;have ajh:bs.length=p.length:=oo;obtain⟨rb,wc,hu⟩:∃rb wc,u=.slice (some ⟨rb,0,none⟩) bs.length wc/\bs.length<=wc/\(∀i (h:i<bs.length),wr.cell? ⟨rb,0+i,none⟩=some (.map (some bs[i]))):=ajV HO.o.row oo;obtain⟨rfl,hwc,hcells⟩:=hu;have HCM:Hid (aa7 w.heap.size wr p a cap (some ⟨rb,0,none⟩) wc bs):=⟨(HP.o.below HO.o.below nl),⟨rb,0,rfl,hcells⟩,ajh,hwc,HO.o.nd,fun b hb=>by have:=HO.o.lo b hb;omega⟩;have HG0:Hid (mF w.heap.size wr bs (fun _ _=>none)):=fun i hi=>pG.none (HO.o.maps _ (List.getElem_mem hi));have HS1:=hid (HS.o.below (One.fair dB.fair) HO.o.below nl);have FU:(sh.length:Int)<=2097152:=oo;have hrn:rb ∉ bs:=fun hm=>wC (HO.o.maps rb hm) (hcells 0 oo) rfl;have hrl:rb<wr.heap.size:=cell_lt (hcells 0 oo)
   have HCT:Hid (∀wx,dJ bs wr wx->aa7 w.heap.size wx p a cap (some ⟨rb,0,none⟩) wc bs):=fun wx ht=>⟨HP.o.below (HO.o.below.trans (ht.below HCM.o.lo HO.o.below.size)) nl,⟨rb,0,rfl,fun i hi=>by rw[World.cell?_of_block (w:=wr) (a:=⟨rb,_,none⟩) (ht.block rb hrl hrn)];exact hcells i hi⟩,HCM.o.len,HCM.o.cap,HCM.o.nd,HCM.o.lo⟩
   have HRB:Hid (w.heap.size+4<=rb/\∀b∈bs,w.heap.size+4<=b):=⟨(HO.o.row.lt rb rfl).1,HO.o.lo⟩;clear hcells ajh hrn hrl;have HN1:Hid (w.heap.size+1+1+1 ∉ bs/\w.heap.size+1+1 ∉ bs/\w.heap.size+1 ∉ bs):=⟨fun h=>by have:=HO.o.lo _ h;omega,fun h=>by have:=HO.o.lo _ h;omega,fun h=>by have:=HO.o.lo _ h;omega⟩;have sH:Hid (∀wx,dJ bs wr wx->K3 wx (w.heap.size+1+1+1) (.slice a p.length cap) (.slice (some ⟨rb,0,none⟩) bs.length wc) (.map (some (w.heap.size+1+1)))):=fun wx ht=>(show _=_ from(ht.block _ HO.o.cas.lt HN1.o.1).trans HO.o.cas);have HCR:Hid (∀wx,dJ bs wr wx->K3 wx (w.heap.size+1) (.slice none 0 0) (.slice none 0 0) (.map none)):=fun wx ht=>(show _=_ from(ht.block _ HO.o.res.lt HN1.o.2.2).trans HO.o.res)
   have HCN:Hid (∀wx,dJ bs wr wx->pY 133 wx (w.heap.size+1+1) (fun _=>none)):=fun wx ht=>HO.o.known.keep (ht.block _ HO.o.known.lt HN1.o.2.1);have HBL:Hid (∀wx,dJ bs wr wx->Below w.heap.size w wx):=fun wx ht=>HO.o.below.trans (ht.below HCM.o.lo HO.o.below.size);obtain⟨w1,hw1⟩:∃q,q=wr:=⟨_,rfl⟩;subst hw1;clear k0 k1 k2 HO hsz;go_wp2_with fail;go_loopg[26] sh.length (fun gg v26 wr=>∃(i:Nat),v26=.int .i64 (i:Int)/\i+gg=sh.length/\Aside (mF w.heap.size wr bs (fun e=>wZ F p e (fun _=>none) (sh.take i))/\dJ bs w1 wr));case atStart=>exact⟨0,rfl,oo,HG0.o,dJ.refl _ _⟩
   case round=>
    obtain⟨go,hgo⟩:∃go,go=gk:=⟨_,rfl⟩;obtain⟨wo,rfl⟩:∃q,q=wr:=⟨_,rfl⟩;obtain⟨i,rfl,hi,hA⟩:=hrel;have HR:Hid (mF w.heap.size wo bs (fun e=>wZ F p e (fun _=>none) (sh.take i))/\dJ bs w1 wo):=hA.o;clear hA;have BR:=hid (HBL.o wo HR.o.2);have hsr:=BR.o.size;by_cases hlt:i<sh.length
    .have h2:(i:Int)<(sh.length:Int):=oo;obtain⟨g,o,e1,hL,hcap⟩:=(HS.o.below (One.fair dB.fair) BR.o nl).here (by rintro rfl;simp at hlt);obtain⟨cv,d0,hcv,_⟩:=hL.shq (i:=i) hlt;have HKS:=hid (HK.o sh[i] (List.getElem_mem hlt));have HFS:Hid (∀e,wZ F p e (fun _=>none) (sh.take (i+1))=Gl F p e (wZ F p e (fun _=>none) (sh.take i)) sh[i]):=fun e=>Bj _ _ sh hlt;generalize sh[i]=rs at *;have HRS:=hid hcv;have hrl:=hcv.len;obtain⟨ra,rc,rfl⟩:=hcv.form;have hr6:(rs.length:Int)<=2097152:=oo;clear hcv hL;subst e1;go_wp2_with fail;go_loopg[32] rs.length (fun gg v32 wx=>∃(j:Nat),v32=.int .i64 (j:Int)/\j+gg=rs.length/\Aside (mF w.heap.size wx bs (fun e=>Gl F p e (wZ F p e (fun _=>none) (sh.take i)) (rs.take j))/\dJ bs wo wx));case atStart=>exact⟨0,rfl,oo,HR.o.1,dJ.refl _ _⟩
     case round=>
      obtain⟨gi,hgi⟩:∃gi,gi=gk:=⟨_,rfl⟩;obtain⟨j,rfl,hj,hA⟩:=hrel;have HJ:Hid (mF w.heap.size wr bs (fun e=>Gl F p e (wZ F p e (fun _=>none) (sh.take i)) (rs.take j))/\dJ bs wo wr):=hA.o;clear hA;have TJ:=hid (HR.o.2.trans HJ.o.2);have BJ:=hid (HBL.o wr TJ.o);have hsj:=BJ.o.size;by_cases hlj:j<rs.length
      .have h3:(j:Int)<(rs.length:Int):=oo;have BOJ:=hid (HJ.o.2.below HCM.o.lo hsr);obtain⟨g6,o6,e6,hL6,hcap6⟩:=(HRS.o.below dB.fair BOJ.o nl).here (by rintro rfl;simp at hlj);obtain⟨hv,bv,bl,⟨d0',d1,d2,d3⟩,hhv,hbv,hbb,_⟩:=hL6.rlq (i:=j) hlj;have HKR:=HKS.o rs[j] (List.getElem_mem hlj);have HFR:Hid (∀e,Gl F p e (wZ F p e (fun _=>none) (sh.take i)) (rs.take (j+1))=yJ F p rs[j] e (Gl F p e (wZ F p e (fun _=>none) (sh.take i)) (rs.take j))):=fun e=>Bj _ _ rs hlj;generalize rs[j]=r at *;have hok:=HKR.2;have hbd:r.at_.getD aA=aA->r.body=some bl:=fun e=>by
        obtain⟨bd,h⟩:=HKR.1 e;rw[h,hbb bd h]
       obtain⟨fb,Hfb⟩:=Nm r.body.isSome;rw[Hfb.o]at d2;have d2':wr.cell? ⟨g6,o6+j*4+2,none⟩=some (.bool fb):=d2;obtain⟨ha,hc,rfl⟩:=hhv.form;obtain⟨ba,bc,rfl⟩:=hbv.form;have HHV:=hid hhv;have HBV:=hid hbv;have VT:=hid hbd;have VJ:=hid hok;obtain⟨at_,Gx⟩:=Nm (r.at_.getD aA);rw[Gx.o]at d0';clear hL6 hhv hbv hbb hbd hok d2 HKR;have A6:Hid (Q4 130 (wr.alloc (.cells #[.string at_,.slice ha r.head.length hc,.bool fb,.slice ba bl.length bc] 130)) wr.heap.size (.string at_) (.slice ha r.head.length hc) (.bool fb) (.slice ba bl.length bc)):=Q4.new _ _ _ _ _ _;have X6:Hid (Below wr.heap.size wr (wr.alloc (.cells #[.string at_,.slice ha r.head.length hc,.bool fb,.slice ba bl.length bc] 130))):=Ax.alloc nl _;subst e6;go_upto_region 12 with fail
       generalize wr.alloc (.cells #[.string at_,.slice ha r.head.length hc,.bool fb,.slice ba bl.length bc] 130)=w6 at *;obtain⟨db,Hdb⟩:=Nm wr.heap.size;rw[Hdb.o]at A6;rw[Hdb.o];clear d0' d1 d2' d3;obtain⟨a0,a1,a2,a3⟩:=A6.o.cs;have T6:=hid (TJ.o.trans (dJ.of_below X6.o));have G6:=hid (HJ.o.1.below X6.o hsj);obtain⟨k0,k1,k2⟩:=(sH.o w6 T6.o).cs;have HL:=hid (akl F w.heap.size p a cap (some ⟨rb,0,none⟩) wc bs (w.heap.size+1+1) r ha hc ba bc bl _ w6 (HCT.o w6 T6.o) G6.o (Sl.below HHV.o X6.o hsj) (Sl.below HBV.o X6.o hsj) fb VT.o VJ.o (HRD.o _) (HFT.o.below (BJ.o.trans (X6.o.mono hsj))));rw[Gx.o]at HL;go_wp2_with fail;refine HL.o.mono ?_;rintro ex w7 ⟨rfl,hall7,ht7⟩;have T7:=hid (HJ.o.2.trans ((dJ.of_below X6.o).trans ht7))
       have HE:Hid (mF w.heap.size w7 bs (fun e=>Gl F p e (wZ F p e (fun _=>none) (sh.take i)) (rs.take (j+1)))):=by intro e he;show pG _ _ _ (Gl F p e (wZ F p e (fun _=>none) (sh.take i)) (rs.take (j+1)));rw[HFR.o e];exact hall7 e he
       clear hall7 ht7 a0 a1 a2 a3 k0 k1 k2 HL;go_wp2_with fail;go_roundg(gi-1);case measure=>omega
       case rel=>exact⟨j+1,by congr 1,oo,HE.o,T7.o⟩
      .have h3:(rs.length:Int)<=(j:Int):=oo;have HE:Hid (mF w.heap.size wr bs (fun e=>wZ F p e (fun _=>none) (sh.take (i+1)))):=by
        intro e he;have h4:pG _ _ _ (Gl F p e (wZ F p e (fun _=>none) (sh.take i)) (rs.take j)):=HJ.o.1 e he;rw[List.take_of_length_le (show rs.length<=j by omega),<-HFS.o e]at h4;exact h4
       go_wp2_with fail;go_roundg(go-1);case measure=>omega
       case rel=>exact⟨i+1,by congr 1,oo,HE.o,TJ.o⟩
    .have h2:(sh.length:Int)<=(i:Int):=oo;have HE:Hid (mF w.heap.size wo bs (fun e=>wZ F p e (fun _=>none) sh)):=by
      have h4:=HR.o.1;rw[List.take_of_length_le (show sh.length<=i by omega)]at h4;exact h4
     obtain⟨k0,k1,k2⟩:=(sH.o wo HR.o.2).cs;have HRS:=hid (HCR.o wo HR.o.2);obtain⟨r0,r1,r2⟩:=HRS.o.cs;have z0:=K3.fz HRS.o 0;have z1:=K3.fz HRS.o 1;have z2:=K3.fz HRS.o 2;go_wp2_with fail;have CW:=hid (HCT.o wo HR.o.2);have MW:=hid (HCN.o wo HR.o.2);clear k0 k1 k2 z0 z1 z2;refine bodyPost_ret (v:=.agg #[.slice a p.length cap,.slice (some ⟨rb,0,none⟩) bs.length wc,.map (some (w.heap.size+1+1))]) (by simp[results,Tryz.results36,go_sem,r0,r1,r2]) rfl ?_;have oth:∀k,k≠w.heap.size+1->(((wo.setCell ⟨w.heap.size+1,0,none⟩ (.slice a p.length cap)).setCell ⟨w.heap.size+1,1,none⟩ (.slice (some ⟨rb,0,none⟩) bs.length wc)).setCell ⟨w.heap.size+1,2,none⟩ (.map (some (w.heap.size+1+1)))).heap[k]?=wo.heap[k]?:=fun k hk=>by rw[Below.heap_setCell _ _ _ _ hk,Below.heap_setCell _ _ _ _ hk,Below.heap_setCell _ _ _ _ hk]
     have hbw:Below w.heap.size wo (((wo.setCell ⟨w.heap.size+1,0,none⟩ (.slice a p.length cap)).setCell ⟨w.heap.size+1,1,none⟩ (.slice (some ⟨rb,0,none⟩) bs.length wc)).setCell ⟨w.heap.size+1,2,none⟩ (.map (some (w.heap.size+1+1)))):=jR Ax oo _ _ _;refine⟨⟨_,_,_,bs,rfl,?_,?_,MW.o.keep (oth _ oo),oo,HN1.o.2.1⟩,BR.o.trans hbw⟩
     .obtain⟨rb',o',e',hcl⟩:=CW.o.win;cases e';exact⟨CW.o.pg.below hbw nl,⟨_,_,rfl,fun i hi=>by rw[World.cell?_of_block (w:=wo) (a:=⟨rb,_,none⟩) (oth rb (by have:=HRB.o.1;omega))];exact hcl i hi⟩,CW.o.len,CW.o.cap,CW.o.nd,CW.o.lo⟩
     .intro e he;exact(HE.o e he).keep hbw (oth _ (by have:=HRB.o.2 _ (List.getElem_mem he);omega))
end Go.Proofs.YtlliliddljkbfaaGreat
namespace Go.Proofs.YtlliliddljkbfaaGreat.Sp
theorem ES(s:BY):∀f i acc,(iK s f i acc).1.size+i<=acc.size+(iK s f i acc).2
 |0,i,acc=>by simp[iK]
 |f+1,i,acc=>by
  unfold iK;by_cases h1:lX (pk s i)=true
  .rw[if_pos h1];have:=ES s f (i+1) (acc++one s i);rw[ByteArray.size_append,iQ (dY (uV h1))]at this;omega
  .rw[if_neg h1];by_cases h2:kY s i=true
   .rw[if_pos h2];have:=ES s f (esc s i).2 (acc++(esc s i).1);have h3:=oL s i;rw[ByteArray.size_append,kN]at this;omega
   .rw[if_neg h2];simp
theorem DR(s:BY)(i:Nat):(name s i).1.size+i<=(name s i).2:=by have:=ES s s.size i ByteArray.empty;simp at this;exact this
theorem yK(s:BY)(q:Int):∀f i acc,(lK s q f i acc).1.word.size+i<=acc.size+(lK s q f i acc).2
 |0,i,acc=>by simp[lK,Tok.w]
 |f+1,i,acc=>by
  unfold lK;by_cases h0:s.size<=i
  .rw[if_pos h0];simp[Tok.w]
  rw[if_neg h0];by_cases h1:pk s i=q
  .rw[if_pos h1];simp[Tok.w]
  rw[if_neg h1];by_cases h2:pk s i=10
  .rw[if_pos h2];simp[Tok.k]
  rw[if_neg h2];by_cases h3:pk s i=92
  .rw[if_pos h3];by_cases h4:s.size<=i+1
   .rw[if_pos h4];have:=yK s q f (i+1) acc;omega
   rw[if_neg h4];by_cases h5:pk s (i+1)=10
   .rw[if_pos h5];have:=yK s q f (i+2) acc;omega
   rw[if_neg h5];have:=yK s q f (esc s i).2 (acc++(esc s i).1);have h6:=oL s i;rw[ByteArray.size_append,kN]at this;omega
  rw[if_neg h3];have:=yK s q f (i+1) (acc++one s i);rw[ByteArray.size_append,iQ oo]at this;omega
theorem ET(s:BY):∀f i acc,(jd s f i acc).1.word.size+i<=acc.size+(jd s f i acc).2
 |0,i,acc=>by simp[jd,Tok.w]
 |f+1,i,acc=>by
  unfold jd;have hb:=Ee s i;by_cases h0:s.size<=i
  .rw[if_pos h0];simp[Tok.w]
  rw[if_neg h0];by_cases h1:pk s i=41
  .rw[if_pos h1];simp[Tok.w]
  rw[if_neg h1];by_cases h2:aO (pk s i)=true
  .rw[if_pos h2];by_cases h3:s.size<=blk s i
   .rw[if_pos h3];simp[Tok.w];omega
   rw[if_neg h3];by_cases h4:pk s (blk s i)=41
   .rw[if_pos h4];simp[Tok.w];omega
   rw[if_neg h4];have:=Oq s (blk s i);simp[Tok.k];omega
  rw[if_neg h2];by_cases h3:kY s i=true
  .rw[if_pos h3];have:=ET s f (esc s i).2 (acc++(esc s i).1);have h6:=oL s i;rw[ByteArray.size_append,kN]at this;omega
  rw[if_neg h3];by_cases h4:Eb (pk s i)=true
  .rw[if_pos h4];have:=Oq s i;simp[Tok.k];omega
  rw[if_neg h4];have:=ET s f (i+1) (acc++one s i);rw[ByteArray.size_append,iQ oo]at this;omega
def Kz(t:Tok):Nat:=t.word.size+t.unit.size+if t.kind=11 then 1 else 0
theorem EU{n:Int}{x:BY}(h:n≠11):Kz (Tok.w n x)=x.size:=by unfold Kz;rw[if_neg (by simpa[Tok.w]using h)];simp[Tok.w]
theorem XR{n:Int}(h:n≠11):Kz (Tok.k n)=0:=by unfold Kz;rw[if_neg (by simpa[Tok.k]using h)];simp[Tok.k]
theorem NS{s:BY}{i:Nat}(hi:i<s.size):Kz (token s i).1+i<=(token s i).2:=by
 unfold token;split
 .rw[XR (by decide)];have:=Ee s i;omega
 split
 .have h1:=yK s (pk s i) s.size (i+1) ByteArray.empty;have h2:=lu s (pk s i) s.size (i+1) ByteArray.empty;unfold txt Kz;rw[if_neg (by rcases h2.1 with e|e<;>rw[e]<;>decide),h2.2];simp at h1⊢;omega
 split
 .rw[EU (by decide)];have:=DR s (i+1);show(name s (i+1)).1.size+i<=(name s (i+1)).2;omega
 split
 .rename_i hn;have h1:=yY hn;have h2:=yX (s:=s) (i:=i) oo;have hz:(s.extract i (bT s i)).size=bT s i-i:=by simp;omega
  unfold numeric;simp only;split
  .rw[EU (by decide),hz];show _<=bT s i+1;omega
  split
  .have:=DR s (bT s i);unfold Kz;show(s.extract i (bT s i)).size+(name s (bT s i)).1.size+(if (7:Int)=11 then 1 else 0)+i<=(name s (bT s i)).2;rw[hz,if_neg (by decide)];omega
  .rw[EU (by decide),hz];show _<=bT s i;omega
 split
 .rw[XR (by decide)];show _<=i+4;omega
 split
 .rw[XR (by decide)];show _<=i+3;omega
 split
 .rw[EU (by decide)];have:=DR s (i+1);show(name s (i+1)).1.size+i<=(name s (i+1)).2;omega
 split
 .have hn:=DR s i;unfold named;simp only;split
  .split
   .have hb:=Ee s ((name s i).2+1);have h1:=ET s s.size (blk s ((name s i).2+1)) ByteArray.empty;have h2:=mQ s s.size (blk s ((name s i).2+1)) ByteArray.empty;unfold link Kz;rw[if_neg (by rcases h2.1 with e|e<;>rw[e]<;>decide),h2.2];simp at h1⊢;omega
   .unfold Kz;rw[if_pos (by rfl)];show(name s i).1.size+0+1+i<=(name s i).2+1;omega
  .rw[EU (by decide)];exact hn
 .rw[EU (by decide),iQ hi];show _<=i+1;omega
def Vk(g:Tok->Nat):List Tok->Nat
 |[]=>0
 |t::r=>g t+Vk g r
theorem Zx{g:Tok->Nat}{K:Nat}{s:BY}(hg:∀i,i<s.size->g (token s i).1<=K*((token s i).2-i)):∀f i,i<=s.size->Vk g (tokF s f i)+K*i<=K*s.size
 |0,i,hi=>by simp only[tokF,Vk];rw[Nat.zero_add];exact Nat.mul_le_mul_left K hi
 |f+1,i,hi=>by
  unfold tokF;by_cases h0:s.size<=i
  .rw[if_pos h0];simp only[Vk];rw[Nat.zero_add];exact Nat.mul_le_mul_left K hi
  .rw[if_neg h0];have h1:=hg i oo;have h2:=xB (s:=s) (i:=i) oo;have h3:=xA (s:=s) (i:=i) oo;have h4:=Vq h2;have ih:=Zx hg f (com s (token s i).2) (Af h2);simp only[Vk];have h5:K*(token s i).2<=K*com s (token s i).2:=Nat.mul_le_mul_left K h4;have h6:K*((token s i).2-i)+K*i=K*(token s i).2:=by rw[<-Nat.mul_add];congr 1;omega
   omega
theorem UC{g:Tok->Nat}{K:Nat}{s:BY}(hg:∀i,i<s.size->g (token s i).1<=K*((token s i).2-i)):Vk g (toks s)<=K*s.size:=by have:=Zx hg s.size (com s 0) (Af (Nat.zero_le _));unfold toks;omega
mutual
def muN(g:Tok->Nat):Nd->Nat
 |.mk t k=>g t+Ac g k
def Ac(g:Tok->Nat):List Nd->Nat
 |[]=>0
 |n::r=>muN g n+Ac g r
end
theorem KA(g:Tok->Nat)(n:Nd):muN g n=g n.t+Ac g n.kids:=by cases n;simp[muN]
theorem yL(g:Tok->Nat)(n:Nd)(r:List Nd):Ac g (n::r)=muN g n+Ac g r:=by simp[Ac]
theorem PS(g:Tok->Nat){a b:List Nd}(h:a.Sublist b):Ac g a<=Ac g b:=by
 induction h with
 |slnil=>exact Nat.le_refl _
 |cons x _ ih=>rw[yL];omega
 |cons_cons x _ ih=>rw[yL,yL];omega
theorem PU(g:Tok->Nat):∀(l:List Nd) (n:Nd),n∈l->muN g n<=Ac g l
 |m::r,n,h=>by
  rw[yL];rcases List.mem_cons.1 h with rfl|h
  .omega
  .have:=PU g r n h;omega
theorem Zy(g:Tok->Nat)(n:Nat):∀(e:BY) (ts:List Tok),ts.length<=n->Ac g (kids e ts).1+Vk g (kids e ts).2<=Vk g ts:=by
 induction n with
 |zero=>intro e ts h;obtain rfl:ts=[]:=List.eq_nil_of_length_eq_zero oo;simp[jB,Ac,Vk]
 |succ n ih=>
  intro e ts h;cases ts with
  |nil=>simp[jB,Ac,Vk]
  |cons t r=>
   simp only[List.length_cons]at h;by_cases hc:e≠aA/\au t e=true
   .rw[qX hc];simp only[Ac,Vk];omega
   .rw[iy hc];have hl:=qW t r;have h1:Ac g (inside t r).1+Vk g (inside t r).2<=Vk g r:=by
     unfold inside;split
     .simp[Ac]
     .exact ih _ r oo
    have h2:=ih e (inside t r).2 oo;simp only[Ac,muN,Vk];omega
theorem ku:∀(l:List Nd),(aH l).Sublist l
 |[]=>by simp[aH]
 |n::r=>by
  unfold aH;split
  .exact(ku r).cons n
  .exact List.Sublist.refl _
theorem qP(l:List Nd):(bare l).Sublist l:=by unfold bare lJ;have h:=(ku (aH l).reverse).reverse;rw[List.reverse_reverse]at h;exact h.trans (ku l)
theorem qQ(stop:Nd->Bool):∀(l:List Nd),(bG stop l).1.Sublist l/\(bG stop l).2.2.Sublist l
 |[]=>by simp[bG]
 |n::r=>by
  unfold bG;split
  .exact⟨List.nil_sublist _,(List.Sublist.refl r).cons n⟩
  .have ih:=qQ stop r;exact⟨ih.1.cons_cons n,ih.2.cons n⟩
theorem UD(v:List Nd):(gW v).1.Sublist v:=by
 unfold gW;split
 .exact List.Sublist.refl _
 .split
  .split
   .exact List.Sublist.refl _
   .split
    .exact(qP _).trans ((List.dropLast_sublist _).trans ((qP _).trans (List.dropLast_sublist _)))
    .exact List.Sublist.refl _
  .exact List.Sublist.refl _
theorem UE{l:List Nd}{d:Dec}(h:iI l=some d):d.val.Sublist l:=by
 unfold iI at h;split at h
 .cases h
 .rename_i n r;split at h
  .cases h
  .split at h
   .cases h
   .rename_i c q hq;split at h
    .cases h;have h1:(c::q).Sublist r:=by rw[<-hq];exact qP r
     exact((UD _).trans ((qP q).trans (((List.Sublist.refl q).cons c).trans h1))).cons n
    .cases h
theorem sV:∀(f:Nat) (l:List Nd),∀d∈fF f l,d.val.Sublist l
 |0,l=>by simp[fF]
 |f+1,[]=>by simp[fF]
 |f+1,n::r=>by
  unfold fF;split
  .exact fun d hd=>(sV f r d hd).cons n
  split
  .exact fun d hd=>((sV f _ d hd).trans (qQ _ r).2).cons n
  .have h2:∀d∈fF f (bG aS (n::r)).2.2,d.val.Sublist (n::r):=fun d hd=>(sV f _ d hd).trans (qQ _ _).2;simp only;split
   .exact h2
   .rename_i d0 hd0;intro d hd;rcases List.mem_cons.1 hd with rfl|hd
    .exact(UE hd0).trans (qQ _ _).1
    .exact h2 d hd
theorem KC(l:List Nd):∀d∈decls l,d.val.Sublist l:=sV _ l
theorem UF(g:Tok->Nat){K:Nat}{s:BY}(hg:∀i,i<(clean s).size->g (token (clean s) i).1<=K*((token (clean s) i).2-i)){r:Rule}(hr:r∈rules true (bH s)){b:List Nd}(hb:r.body=some b){d:Dec}(hd:d∈decls b):Ac g d.val<=K*(clean s).size:=by
 obtain⟨n,h1,_,rfl⟩:=((pO true (bH s)).2 r hr).body b hb;have h2:=PS g (KC _ d hd);have h3:=PU g _ n h1;rw[KA]at h3;have h4:=Zy g _ aA (toks (clean s)) nl;have h5:=UC hg;have h6:Ac g (bH s)<=Vk g (toks (clean s)):=by unfold bH nodes;omega
 omega
section
def ig(n:Nd):Bool:=dN n (b1 44)
def Gm(k:List Nd):Option (BY×Bool×List Nd):=
 match bare (bG ig k).1 with
 |[n]=>if n.t.kind=14/\custom n.t.word=true then some (n.t.word,(bG ig k).2.1.isSome,bare (bG ig k).2.2) else none
 |_=>none
theorem KD{k fb:List Nd}{w:BY}{hf:Bool}(h:Gm k=some (w,hf,fb)):fb.Sublist k/\∃n∈k,n.t.kind=14/\n.t.word=w/\custom w=true:=by
 unfold Gm at h;split at h
 .rename_i n hn;split at h
  .rename_i hk;cases h;refine⟨(qP _).trans (qQ _ _).2,n,?_,hk.1,rfl,hk.2⟩;have h1:n∈bare (bG ig k).1:=by rw[hn];simp
   exact(qQ _ _).1.subset ((qP _).subset h1)
  .cases h
 .cases h
def nmV(k:List Nd):List BY:=match Gm k with|some x=>[x.1]|none=>[]
mutual
def nmN:Nd->List BY
 |.mk t k=>(if kD t=true then nmV k else [])++lW k
def lW:List Nd->List BY
 |[]=>[]
 |n::r=>nmN n++lW r
end
theorem XT(n:Nd):nmN n=(if kD n.t=true then nmV n.kids else [])++lW n.kids:=by
 cases n with
 |mk t k=>
  conv=>lhs;unfold nmN
  rfl
theorem PV:lW []=[]:=by simp[lW]
theorem yM(n:Nd)(r:List Nd):lW (n::r)=nmN n++lW r:=by simp[lW]
theorem ahE(k:List Nd):(nmV k).length<=1:=by unfold nmV;split<;>simp
mutual
theorem ahF:∀(n:Nd),(nmN n).length<=Cc n
 |.mk t k=>by
  have h1:=DT k;have h2:=ahE k;unfold nmN Cc;rw[List.length_append];split
  .omega
  .simp;omega
theorem DT:∀(l:List Nd),(lW l).length<=dL l
 |[]=>by simp[lW]
 |n::r=>by have h1:=ahF n;have h2:=DT r;unfold lW dL;rw[List.length_append];omega
end
def wI(s:BY):Nd:=.mk (Tok.w (-1) s) []
def zJ(g:BY->BY):Nat->Nd->Option Nd
 |0,n=>some (.mk n.t [])
 |f+1,n=>
  if kD n.t=true then
   (match Gm n.kids with
    |none=>none
    |some (w,hf,fb)=>
     if g w≠aA then some (wI (g w))
     else if hf=true then(tC (zJ g f) fb).map (fun x=>wI (written x)) else none)
  else(tC (zJ g f) n.kids).map (fun k=>.mk n.t k)
theorem ae3(h:Nd->Option Nd):tC h []=some []:=rfl
theorem qR(h:Nd->Option Nd)(n:Nd)(r:List Nd):tC h (n::r)=match h n with|none=>none|some m=>(tC h r).map (fun x=>m::x):=rfl
theorem yN(h:Nd->Option Nd):∀(a b:List Nd),tC h (a++b)=match tC h a with|none=>none|some x=>(tC h b).map (fun y=>x++y)
 |[],b=>by rw[List.nil_append,ae3];cases tC h b<;>rfl
 |n::r,b=>by
  rw[List.cons_append,qR,qR];cases h n with
  |none=>rfl
  |some m=>
   simp only;rw[yN h r b];cases tC h r with
   |none=>rfl
   |some x=>simp only[Option.map_some];cases tC h b<;>rfl
theorem ae4{h:Nd->Option Nd}:∀ {a x:List Nd},tC h a=some x->x.length=a.length
 |[],x,e=>by cases e;rfl
 |n::r,x,e=>by
  rw[qR]at e;cases hn:h n with
  |none=>rw[hn]at e;cases e
  |some m=>
   rw[hn]at e;cases hr:tC h r with
   |none=>rw[hr]at e;cases e
   |some y=>rw[hr]at e;cases e;rw[List.length_cons,List.length_cons,ae4 hr]
inductive Way (nb:BY->List BY):BY->BY->Prop
 |one {a b:BY}:b∈nb a->Way nb a b
 |more {a b c:BY}:Way nb a b->c∈nb b->Way nb a c
section
variable (p:aI) (V:Nat->BY->Option (List Nd)) (lp:Nat->BY->Bool)
def yO(e:Nat)(q:BY):List BY:=match V e q with|none=>[]|some v=>lW v
def paV(rec:Nat->BY->BY)(e:Nat)(q:BY):BY:=if parentOf p e<0 then aA else rec (parentOf p e).toNat q
def dnV(rec:Nat->BY->BY)(e:Nat)(q:BY):BY:=if handed q=true then paV p rec e q else aA
def Bq(rec:Nat->BY->BY)(e:Nat)(q:BY):BY:=
 match V e q with
 |none=>dnV p rec e q
 |some v=>
  if (isWord v lN||jg zB v)=true then dnV p rec e q
  else if isWord v jU=true then paV p rec e q
  else if isWord v nInitial=true then aA
  else if jg kD v=false then written v
  else if (custom q&&lp e q)=true then aA
  else match tC (zJ (rec e) 9) v with
   |none=>dnV p rec e q
   |some l=>if 400<(written l).size then dnV p rec e q else written l
def wJ:Nat->Nat->BY->BY
 |0,_,_=>aA
 |n+1,e,q=>Bq p V lp (wJ n) e q
def Cv(e:Nat)(q t:BY):Prop:=∃n0,∀n,n0<=n->wJ p V lp n e q=t
def CvI(e:Int)(q t:BY):Prop:=if e<0 then t=aA else Cv p V lp e.toNat q t
def Ex(e f:Nat)(l:List Nd)(r:Option (List Nd)):Prop:=∃n0,∀n,n0<=n->tC (zJ (wJ p V lp n e) f) l=r
def En(e f:Nat)(m:Nd)(r:Option Nd):Prop:=∃n0,∀n,n0<=n->zJ (wJ p V lp n e) f m=r
end
section
variable {p:aI} {V:Nat->BY->Option (List Nd)} {lp:Nat->BY->Bool}
theorem Cv.step{e:Nat}{q t:BY}(h:∃n0,∀n,n0<=n->Bq p V lp (wJ p V lp n) e q=t):Cv p V lp e q t:=by obtain⟨a,ha⟩:=h;refine⟨a+1,fun n hn=>?_⟩;obtain⟨m,rfl⟩:∃m,n=m+1:=⟨n-1,oo⟩;exact ha m oo
theorem Ex.nil(e f:Nat):Ex p V lp e f [] (some []):=⟨0,fun _ _=>rfl⟩
theorem Ex.stop{e f:Nat}{a b:List Nd}{m:Nd}{x:List Nd}(h:Ex p V lp e f a (some x))(k:En p V lp e f m none):Ex p V lp e f (a++m::b) none:=by obtain⟨i,hi⟩:=h;obtain⟨j,hj⟩:=k;refine⟨i+j,fun n hn=>?_⟩;rw[yN,hi n oo,qR,hj n oo];rfl
theorem Ex.snoc{e f:Nat}{a:List Nd}{m m':Nd}{x:List Nd}(h:Ex p V lp e f a (some x))(k:En p V lp e f m (some m')):Ex p V lp e f (a++[m]) (some (x++[m'])):=by obtain⟨i,hi⟩:=h;obtain⟨j,hj⟩:=k;refine⟨i+j,fun n hn=>?_⟩;rw[yN,hi n oo,qR,hj n oo];rfl
theorem En.plain{e f:Nat}{m:Nd}{k:List Nd}(hv:kD m.t=false)(h:Ex p V lp e f m.kids (some k)):En p V lp e (f+1) m (some (.mk m.t k)):=by obtain⟨i,hi⟩:=h;refine⟨i,fun n hn=>?_⟩;unfold zJ;rw[if_neg (by rw[hv];simp),hi n hn];rfl
theorem En.ae5{e f:Nat}{m:Nd}(hv:kD m.t=false)(h:Ex p V lp e f m.kids none):En p V lp e (f+1) m none:=by obtain⟨i,hi⟩:=h;refine⟨i,fun n hn=>?_⟩;unfold zJ;rw[if_neg (by rw[hv];simp),hi n hn];rfl
theorem En.leaf{e:Nat}{m:Nd}:En p V lp e 0 m (some (.mk m.t [])):=⟨0,fun _ _=>rfl⟩
theorem En.unread{e f:Nat}{m:Nd}(hv:kD m.t=true)(h:Gm m.kids=none):En p V lp e (f+1) m none:=by refine⟨0,fun n hn=>?_⟩;unfold zJ;rw[if_pos hv,h]
theorem En.text{e f:Nat}{m:Nd}{w t:BY}{hf:Bool}{fb:List Nd}(hv:kD m.t=true)(h:Gm m.kids=some (w,hf,fb))(hc:Cv p V lp e w t)(ht:t≠aA):En p V lp e (f+1) m (some (wI t)):=by obtain⟨i,hi⟩:=hc;refine⟨i,fun n hn=>?_⟩;unfold zJ;rw[if_pos hv,h];simp only;rw[hi n hn,if_pos ht]
theorem En.none{e f:Nat}{m:Nd}{w:BY}{fb:List Nd}(hv:kD m.t=true)(h:Gm m.kids=some (w,false,fb))(hc:Cv p V lp e w aA):En p V lp e (f+1) m none:=by obtain⟨i,hi⟩:=hc;refine⟨i,fun n hn=>?_⟩;unfold zJ;rw[if_pos hv,h];simp only;rw[hi n hn,if_neg (by simp),if_neg (by simp)]
theorem En.back{e f:Nat}{m:Nd}{w:BY}{fb:List Nd}{r:Option (List Nd)}(hv:kD m.t=true)(h:Gm m.kids=some (w,true,fb))(hc:Cv p V lp e w aA)(hb:Ex p V lp e f fb r):En p V lp e (f+1) m (r.map (fun x=>wI (written x))):=by obtain⟨i,hi⟩:=hc;obtain⟨j,hj⟩:=hb;refine⟨i+j,fun n hn=>?_⟩;unfold zJ;rw[if_pos hv,h];simp only;rw[hi n oo,if_neg (by simp),if_pos trivial,hj n oo]
end
def abC(t:Tok):Nat:=if t.kind = -1 then t.word.size else 4*t.word.size+4*t.unit.size+12
theorem Zz(t:Tok):abC t<=4*t.word.size+4*t.unit.size+12:=by unfold abC;split<;>omega
mutual
def yzN:Nd->Nat
 |.mk t k=>abC t+4+Vl k
def Vl:List Nd->Nat
 |[]=>0
 |n::r=>yzN n+Vl r
end
theorem ahG:Vl []=0:=by simp[Vl]
theorem ae6(n:Nd)(r:List Nd):Vl (n::r)=yzN n+Vl r:=by simp[Vl]
theorem ae7{t:Tok}(h:t.kind = -1)(inn:BY):Qy t inn=t.word:=by unfold Qy;simp[h]
theorem ahH(a:Option Tok)(b:Tok):(Aj a b).size<=4:=by
 unfold Aj;split
 .show 0<=4;omega
 .split
  .show 4<=4;omega
  .show 0<=4;omega
mutual
theorem ahI:∀(n:Nd),(iM n).size+4<=yzN n
 |.mk t k=>by
  unfold iM yzN;have h1:=MK t (l9 none k);have h2:=PW none k;unfold abC;by_cases h:t.kind = -1
  .rw[if_pos h,ae7 h];omega
  .rw[if_neg h];omega
theorem PW:∀(a:Option Tok) (l:List Nd),(l9 a l).size<=Vl l
 |a,[]=>by unfold l9;show 0<=_;omega
 |a,n::r=>by
  unfold l9 Vl;have h1:=ahI n;have h2:=PW (some n.t) r;have h3:=ahH a n.t;rw[ByteArray.size_append];split
  .show 0+_<=_;omega
  .rw[ByteArray.size_append];omega
end
theorem NT(l:List Nd):(written l).size<=Vl l:=PW none l
def Gn(M:Nat)(t:Tok):Nat:=4*t.word.size+4*t.unit.size+16+if kD t=true then M else 0
theorem ahJ{M:Nat}{t:Tok}(h:kD t=true):M+16<=Gn M t:=by unfold Gn;rw[if_pos h];omega
theorem ae8(M:Nat)(t:Tok):4*t.word.size+4*t.unit.size+16<=Gn M t:=by unfold Gn;omega
theorem gY(n:Nd):Cc n=4*n.t.word.size+4*n.t.unit.size+16+dL n.kids:=by cases n;simp[Cc]
theorem XU(n:Nd):yzN n=abC n.t+4+Vl n.kids:=by cases n;simp[yzN]
theorem bW(n:Nd)(r:List Nd):dL (n::r)=Cc n+dL r:=by simp[dL]
theorem lG:dL []=0:=by simp[dL]
theorem ae9(s:BY):yzN (wI s)=s.size+4/\Cc (wI s)=4*s.size+16:=by rw[XU,gY];unfold wI abC;simp[Tok.w,Vl,dL]
theorem KE{h:Nd->Option Nd}{M:Nat}(hh:∀(n m:Nd),h n=some m->yzN m<=muN (Gn M) n/\Cc m<=4*muN (Gn M) n):∀(l x:List Nd),tC h l=some x->Vl x<=Ac (Gn M) l/\dL x<=4*Ac (Gn M) l
 |[],x,e=>by cases e;simp[Vl,dL]
 |n::r,x,e=>by
  rw[qR]at e;cases hn:h n with
  |none=>rw[hn]at e;cases e
  |some m=>
   rw[hn]at e;cases hr:tC h r with
   |none=>rw[hr]at e;cases e
   |some y=>rw[hr]at e;cases e;have h1:=hh n m hn;have h2:=KE hh r y hr;rw[ae6,bW,yL];omega
theorem UG{g:BY->BY}{M:Nat}(hg:∀w,(g w).size<=M):∀(f:Nat) (n m:Nd),zJ g f n=some m->yzN m<=muN (Gn M) n/\Cc m<=4*muN (Gn M) n
 |0,n,m,h=>by cases h;have:=ae8 M n.t;rw[KA,XU,gY];simp only[Nd.Qq,Nd.BK,ahG,lG];have:=Zz n.t;omega
 |f+1,n,m,h=>by
  have ih:=KE (UG hg f);unfold zJ at h;by_cases hv:kD n.t=true
  .rw[if_pos hv]at h;have hge:=ahJ (M:=M) hv;rw[KA];cases hr:Gm n.kids with
   |none=>rw[hr]at h;cases h
   |some x=>
    obtain⟨w,hf,fb⟩:=x;rw[hr]at h;simp only at h;have hs:=PS (Gn M) (KD hr).1;split at h
    .cases h;have:=ae9 (g w);have:=hg w;omega
    .split at h
     .cases hb:tC (zJ g f) fb with
      |none=>rw[hb]at h;cases h
      |some y=>rw[hb]at h;cases h;have h1:=ae9 (written y);have h2:=NT y;have h3:=ih fb y hb;show yzN (wI (written y))<=_/\Cc (wI (written y))<=_;omega
     .cases h
  .rw[if_neg hv]at h;rw[KA];cases hb:tC (zJ g f) n.kids with
   |none=>rw[hb]at h;cases h
   |some y=>rw[hb]at h;cases h;have h3:=ih n.kids y hb;have:=ae8 M n.t;rw[XU,gY];simp only[Nd.Qq,Nd.BK];have:=Zz n.t;omega
theorem abD{g:BY->BY}{M:Nat}(hg:∀w,(g w).size<=M){f:Nat}{l x:List Nd}(h:tC (zJ g f) l=some x):Vl x<=Ac (Gn M) l/\dL x<=4*Ac (Gn M) l:=KE (UG hg f) l x h
theorem EW{p:aI}{V:Nat->BY->Option (List Nd)}{lp:Nat->BY->Bool}{M:Nat}(hM:400<=M)(hV:∀e q v,V e q=some v->dL v<=M):∀(n e:Nat) (q:BY),(wJ p V lp n e q).size<=M
 |0,_,_=>by show 0<=M;omega
 |n+1,e,q=>by
  have ih:=EW (p:=p) (lp:=lp) hM hV n;have h0:aA.size<=M:=by show 0<=M;omega
  have hp:(paV p (wJ p V lp n) e q).size<=M:=by unfold paV;split;exact h0;exact ih _ _
  have hd:(dnV p (wJ p V lp n) e q).size<=M:=by unfold dnV;split;exact hp;exact h0
  show(Bq p V lp (wJ p V lp n) e q).size<=M;unfold Bq;cases hv:V e q with
  |none=>exact hd
  |some v=>
   simp only;have hw:=hV e q v hv;split
   .exact hd
   split
   .exact hp
   split
   .exact h0
   split
   .exact Nat.le_trans (vH none v) hw
   split
   .exact h0
   split
   .exact hd
   .split
    .exact hd
    .omega
theorem Cv.size{p:aI}{V:Nat->BY->Option (List Nd)}{lp:Nat->BY->Bool}{M:Nat}(hM:400<=M)(hV:∀e q v,V e q=some v->dL v<=M){e:Nat}{q t:BY}(h:Cv p V lp e q t):t.size<=M:=by obtain⟨n,hn⟩:=h;rw[<-hn n nl];exact EW hM hV n e q
theorem Ex.size{p:aI}{V:Nat->BY->Option (List Nd)}{lp:Nat->BY->Bool}{M:Nat}(hM:400<=M)(hV:∀e q v,V e q=some v->dL v<=M){e f:Nat}{l x:List Nd}(h:Ex p V lp e f l (some x)):Vl x<=Ac (Gn M) l/\dL x<=4*Ac (Gn M) l:=by obtain⟨n,hn⟩:=h;exact abD (fun w=>EW hM hV n e w) (hn n nl)
theorem ahK{M:Nat}{s:BY}{i:Nat}(hi:i<s.size)(hM:M<=12000):Gn M (token s i).1<=3020*((token s i).2-i):=by
 have h1:=NS hi;have h2:=xA hi;unfold Kz at h1;unfold Gn;by_cases hv:kD (token s i).1=true
 .rw[if_pos hv];unfold kD at hv;simp only[Bool.and_eq_true,decide_eq_true_eq]at hv;rw[if_pos hv.1]at h1;have h3:(token s i).1.word.size=3:=by
   have:=congrArg ByteArray.size hv.2;rw[jE]at this;exact this
  omega
 .rw[if_neg hv];omega
theorem afa{s:BY}{i:Nat}(hi:i<s.size):4*(token s i).1.word.size+4*(token s i).1.unit.size+16<=20*((token s i).2-i):=by have h1:=NS hi;have h2:=xA hi;unfold Kz at h1;omega
mutual
theorem akn:∀(n:Nd),Cc n=muN (fun t=>4*t.word.size+4*t.unit.size+16) n
 |.mk t k=>by unfold Cc muN;rw[PX k]
theorem PX:∀(l:List Nd),dL l=Ac (fun t=>4*t.word.size+4*t.unit.size+16) l
 |[]=>by unfold dL Ac;rfl
 |n::r=>by unfold dL Ac;rw[akn n,PX r]
end
theorem abE{s:BY}(hs:s.size<=600){r:Rule}(hr:r∈rules true (bH s)){b:List Nd}(hb:r.body=some b){d:Dec}(hd:d∈decls b):dL d.val<=12000/\Ac (Gn 12000) d.val<=1812000:=by have hc:=oZ s;have h1:=UF (fun t=>4*t.word.size+4*t.unit.size+16) (K:=20) (s:=s) (fun i hi=>afa hi) hr hb hd;have h2:=UF (Gn 12000) (K:=3020) (s:=s) (fun i hi=>ahK hi nl) hr hb hd;rw[PX];omega
theorem UH{s:BY}(hs:s.size<=600):dL (bH s)<=12000:=by have hc:=oZ s;have h1:Vk (fun t=>4*t.word.size+4*t.unit.size+16) (toks (clean s))<=20*(clean s).size:=UC fun i hi=>afa hi;have h2:=Zy (fun t=>4*t.word.size+4*t.unit.size+16) _ aA (toks (clean s)) nl;rw[PX];unfold bH nodes;omega
end
end Go.Proofs.YtlliliddljkbfaaGreat.Sp
namespace Go.Proofs.YtlliliddljkbfaaGreat
open Go.Proofs.Tryz (prog)
open Go.RowKit Sp
section
attribute [local go_sem] bI bJ aX aY
theorem ahL(t:Tok)(ka:Option Addr)(kl kc:Nat)(w:WD):
  Calls prog 98 #[fB t (.slice ka kl kc)] w fun e w'=>e=.returned (.bool (zB t))/\Below w.heap.size w w':=by
 unfold fB;have A2:Hid (VB (w.alloc (.cells #[.int .i64 t.kind,.string t.word,.string t.unit,.slice ka kl kc] 199)) w.heap.size (.int .i64 t.kind) (.string t.word) (.string t.unit) (.slice ka kl kc)):=VB.new _ _ _ _ _;have B2:Hid (Below w.heap.size w (w.alloc (.cells #[.int .i64 t.kind,.string t.word,.string t.unit,.slice ka kl kc] 199))):=Ax.alloc nl _;obtain⟨a0,a1,a2,a3⟩:=A2.o.cs;have HV:Hid (zB t=((t.kind==3)||(t.kind==13))):=by show _=_;unfold zB;rw[Bool.eq_iff_iff];simp
 rw[HV.o];cases e3:(t.kind==3)
 .cases e13:(t.kind==13)
  .go_in;go_wp2_with fail;go_ret;exact⟨rfl,B2.o⟩
  .go_in;go_wp2_with fail;go_ret;exact⟨rfl,B2.o⟩
 .go_in;go_wp2_with fail;go_ret;exact⟨rfl,B2.o⟩
theorem PY(t:Tok)(ka:Option Addr)(kl kc:Nat)(w:WD)(hw:t.word.size<=4000000):
  Calls prog 101 #[fB t (.slice ka kl kc)] w fun e w'=>e=.returned (.bool (kD t))/\Below w.heap.size w w':=by
 unfold fB;have A2:Hid (VB (w.alloc (.cells #[.int .i64 t.kind,.string t.word,.string t.unit,.slice ka kl kc] 199)) w.heap.size (.int .i64 t.kind) (.string t.word) (.string t.unit) (.slice ka kl kc)):=VB.new _ _ _ _ _;have B2:Hid (Below w.heap.size w (w.alloc (.cells #[.int .i64 t.kind,.string t.word,.string t.unit,.slice ka kl kc] 199))):=Ax.alloc nl _;obtain⟨a0,a1,a2,a3⟩:=A2.o.cs;cases e11:(t.kind==11)
 .have HV:Hid (kD t=false):=by show _=_;unfold kD;simp at e11;simp[e11]
  go_in;go_wp2_with fail;go_ret;exact⟨by rw[HV.o];rfl,B2.o⟩
 .have HV:Hid (kD t=((small t.word).toList==[118,97,114])):=by
   show _=_;rw[ay];unfold kD;simp at e11;simp[e11];rfl
  go_in;go_wp2_with fail;have hs2:=B2.o.size;refine pmb (nH t.word _ hw) fun w3 hb3=>?_;have B3:=hid (B2.o.trans (hb3.mono hs2));clear hb3;go_wp2_with fail;go_ret;exact⟨aC HV.o.symm,B3.o⟩
def NU(g:Nat)(G:Tok->Bool)(l:List Nd):Prop:=∀(B:Nat) (v:Av) (w:WD),Sl (fun b=>b<B) w v l->B<=w.heap.size ->
 Calls prog 97 #[v,.func (.func g) #[] #[]] w fun e w'=>e=.returned (.bool (jg G l))/\Below w.heap.size w w'
theorem ahM(G:Tok->Bool)(n:Nd):Qz G n=(G n.t||jg G n.kids):=by cases n;simp[Qz]
theorem abG(G:Tok->Bool){l:List Nd}{i:Nat}(h:i<l.length):jg G (l.drop i)=((G l[i].t||jg G l[i].kids)||jg G (l.drop (i+1))):=by rw[List.drop_eq_getElem_cons h,<-ahM];conv=>lhs;unfold jg
theorem afb(g:Nat)(G:Tok->Bool)(l:List Nd)(hg:∀(args:Array Av) (w:WD),(callFunc g args).run prog w=.ok (.enter g args) w)
  (hf:∀(t:Tok) (ka:Option Addr) (kl kc:Nat) (w:WD),t.word.size<=4000000->Calls prog g #[fB t (.slice ka kl kc)] w fun e w'=>e=.returned (.bool (G t))/\Below w.heap.size w w')
  (hrec:∀n∈l,NU g G n.kids):NU g G l:=by
 intro B v w h hB;have FU:=h.len;have HS:=hid h;have HF:Hid (∀(t:Tok) (ka:Option Addr) (kl kc:Nat) (w:WD),t.word.size<=4000000->Calls prog g #[fB t (.slice ka kl kc)] w fun e w'=>e=.returned (.bool (G t))/\Below w.heap.size w w'):=hf;have HRC:Hid (∀n∈l,NU g G n.kids):=hrec;obtain⟨a,cap,rfl⟩:=h.form;clear h hf hrec;obtain⟨R,HR⟩:=Nm (jg G l);rw[HR.o];go_in;go_wp2_with fail;go_loopg[9] l.length (fun gg v9 wr=>∃(i:Nat),v9=.int .i64 (i:Int)/\i+gg=l.length/\Aside (jg G (l.drop i)=R/\Below w.heap.size w wr));case atStart=>exact⟨0,rfl,oo,HR.o,Ax⟩
 case round=>
  obtain⟨i,rfl,hi,hA⟩:=hrel;have HA:Hid (jg G (l.drop i)=R):=hA.o.1;have HB:=hid hA.o.2;clear hA;have hsr:=HB.o.size;by_cases hlt:i<l.length
  .have h1:(i:Int)<(l.length:Int):=oo;obtain⟨g1,o,rfl,hL,hcap⟩:=(HS.o.below HB.o hB).here (by rintro rfl;simp at hlt);obtain⟨kv,hN⟩:=hL.node (i:=i) hlt;have HRN:=hid (HRC.o l[i] (List.getElem_mem hlt));have HD:=hid (abG G hlt);generalize l[i]=n at *;obtain⟨c0,c1,c2,c3⟩:_/\_/\_/\_:=⟨hN.c0,hN.c1,hN.c2,hN.c3⟩;have hw:=hN.ok.word;obtain⟨ka,kc,rfl⟩:=hN.k.form;have HK:=hid hN.k;clear hN hL;have A2:Hid (VB (wr.alloc (.cells #[.int .i64 n.t.kind,.string n.t.word,.string n.t.unit,.slice ka n.kids.length kc] 199)) wr.heap.size (.int .i64 n.t.kind) (.string n.t.word) (.string n.t.unit) (.slice ka n.kids.length kc)):=VB.new _ _ _ _ _;have X2:Hid (Below wr.heap.size wr (wr.alloc (.cells #[.int .i64 n.t.kind,.string n.t.word,.string n.t.unit,.slice ka n.kids.length kc] 199))):=Ax.alloc nl _;go_upto_region 4 with fail
   generalize wr.alloc (.cells #[.int .i64 n.t.kind,.string n.t.word,.string n.t.unit,.slice ka n.kids.length kc] 199)=w2 at *;obtain⟨nb,Gi⟩:=Nm wr.heap.size;have hs2:=X2.o.size;have B2:=hid (HB.o.trans (X2.o.mono hsr));rw[Gi.o]at A2;rw[Gi.o];clear c0 c1 c2 c3;obtain⟨a0,a1,a2,a3⟩:=A2.o.cs;have HC2:Hid (Calls prog g #[.agg #[.int .i64 n.t.kind,.string n.t.word,.string n.t.unit,.slice ka n.kids.length kc]] w2 fun e w'=>e=.returned (.bool (G n.t))/\Below w2.heap.size w2 w'):=HF.o n.t ka n.kids.length kc w2 hw;have HK2:=hid (HK.o.below X2.o oo);obtain⟨z,Hz⟩:=Nm (G n.t);rw[Hz.o]at HC2 HD;obtain⟨kn,Hkn⟩:=Nm n.kids.length;rw[Hkn.o]at HC2 a3 A2 HK2;go_wp2_with fail;refine HC2.o.mono ?_;rintro ex w3 ⟨rfl,hb3⟩
   have A3:Hid (VB w3 nb (.int .i64 n.t.kind) (.string n.t.word) (.string n.t.unit) (.slice ka kn kc)):=A2.o.below hb3;have B3:=hid (B2.o.trans (hb3.mono oo));have K3:=hid (HK2.o.below hb3 oo);have hs3:=B3.o.size;clear hb3 a0 a1 a2 a3;obtain⟨a0,a1,a2,a3⟩:=A3.o.cs;cases z
   .have sH:=hid (HRN.o B _ w3 K3.o oo);obtain⟨y,Hy⟩:=Nm (jg G n.kids);rw[Hy.o]at sH HD;go_wp2_with fail;refine sH.o.mono ?_;rintro ex w4 ⟨rfl,hb4⟩;have B4:=hid (B3.o.trans (hb4.mono hs3));clear hb4;cases y
    .have HE:Hid (jg G (l.drop (i+1))=R):=by
      show _=_;rw[<-HA.o,HD.o];rfl
     go_wp2_with fail;go_roundg(gk-1);case measure=>omega
     case rel=>exact⟨i+1,by congr 1,oo,HE.o,B4.o⟩
    .have HE:Hid (true=R):=by
      show _=_;rw[<-HA.o,HD.o];rfl
     go_wp2_with fail;go_ret;exact⟨by rw[<-HE.o];rfl,B4.o⟩
   .have HE:Hid (true=R):=by
     show _=_;rw[<-HA.o,HD.o];rfl
    go_wp2_with fail;go_ret;exact⟨by rw[<-HE.o];rfl,B3.o⟩
  .have h1:(l.length:Int)<=(i:Int):=oo;have HE:Hid (false=R):=by
    show _=_;rw[<-HA.o,List.drop_of_length_le (show l.length<=i by omega)];unfold jg;rfl
   go_wp2_with fail;go_ret;exact⟨by rw[<-HE.o];rfl,HB.o⟩
theorem afc(g:Nat)(G:Tok->Bool)(hg:∀(args:Array Av) (w:WD),(callFunc g args).run prog w=.ok (.enter g args) w)
  (hf:∀(t:Tok) (ka:Option Addr) (kl kc:Nat) (w:WD),t.word.size<=4000000->Calls prog g #[fB t (.slice ka kl kc)] w fun e w'=>e=.returned (.bool (G t))/\Below w.heap.size w w'):∀(k:Nat) (l:List Nd),dL l<=k->NU g G l:=by
 intro k;induction k with
 |zero=>intro l hl;refine afb g G l hg hf fun n hn=>?_;have h1:=nK l n hn;have h2:=Sp.gY n;omega
 |succ k ih=>intro l hl;refine afb g G l hg hf fun n hn=>ih _ ?_;have h1:=nK l n hn;have h2:=Sp.gY n;omega
theorem afd(l:List Nd):NU 98 zB l:=afc _ _ (fun _ _=>rfl) (fun t ka kl kc w _=>ahL t ka kl kc w) _ l nl
theorem afe(l:List Nd):NU 101 kD l:=afc _ _ (fun _ _=>rfl) (fun t ka kl kc w h=>PY t ka kl kc w h) _ l nl
end
section
attribute [local go_sem] bI bJ aX aY
theorem al5(n:Nd):jY [⟨#[44]⟩] n=ig n:=by
 unfold jY ig dN au b1;rw[y9];cases decide (n.t.kind=15)
 .rfl
 .by_cases h2:n.t.word=⟨#[44]⟩<;>simp[h2]
theorem Rh.com{B:Nat}{w:WD}{l:List Nd}{v1 sv v2:Av}(h:Rh B w (bG ig l) v1 sv v2):∃(t:Tok) (ka:Option Addr) (kl kc:Nat),sv=fB t (.slice ka kl kc)/\au t (b1 44)=(bG ig l).2.1.isSome:=by
 have h3:=h.stop;cases hc:(bG ig l).2.1 with
 |none=>rw[hc]at h3;exact⟨_,none,0,0,h3,rfl⟩
 |some n=>rw[hc]at h3;obtain⟨kv,rfl,hk,_⟩:=h3;obtain⟨ka,kc,rfl⟩:=hk.form;exact⟨n.t,ka,_,kc,rfl,vP ig l n hc⟩
def U3(w:WD)(b:Nat)(x0 x1 x2:Av):Prop:=w.heap[b]?=some (.cells #[x0,x1,x2] 327 (0,0))
theorem U3.cs{w:WD}{b:Nat}{x0 x1 x2:Av}(h:U3 w b x0 x1 x2):w.cell? ⟨b,0,none⟩=some x0/\w.cell? ⟨b,1,none⟩=some x1/\w.cell? ⟨b,2,none⟩=some x2:=by have h':w.heap[b]?=_:=h;refine⟨?_,?_,?_⟩<;>(unfold World.cell?;rw[h'];rfl)
theorem U3.lt{w:WD}{b:Nat}{x0 x1 x2:Av}(h:U3 w b x0 x1 x2):b<w.heap.size:=(Ay h)
theorem U3.new(w:WD)(x0 x1 x2:Av):U3 (w.alloc (.cells #[x0,x1,x2] 327)) w.heap.size x0 x1 x2:=heap_alloc_new w _
theorem U3.below{w w':WD}{b:Nat}{x0 x1 x2:Av}(h:U3 w b x0 x1 x2)(hb:Below w.heap.size w w'):U3 w' b x0 x1 x2:=by show _=_;rw[hb.block _ h.lt];exact h
theorem U3.fz{w:WD}{b:Nat}{x0 x1 x2:Av}(h:U3 w b x0 x1 x2)(k:Nat):w.frozen? ⟨b,k,none⟩=false:=by have h':w.heap[b]?=_:=h;unfold World.frozen?;rw[h'];simp
def abH(nm:BY)(hf:Bool)(fv:Av):Av:=.agg #[.string nm,.bool hf,fv]
def rdR(B:Nat)(w:WD)(r:Option (BY×Bool×List Nd))(e:Ending):Prop:=
 match r with
 |none=>e=.returned (.tuple #[abH ⟨#[]⟩ false (.slice none 0 0),.bool false])
 |some (nm,hf,fb)=>∃fv,e=.returned (.tuple #[abH nm hf fv,.bool true])/\Sl (fun b=>b<B) w fv fb/\nm.size<=4000000
theorem ako{k:List Nd}(h:¬(bare (bG ig k).1).length=1):Gm k=none:=by
 unfold Gm;split
 .rename_i n hn;rw[hn]at h;exact absurd rfl h
 .rfl
theorem ZA{k:List Nd}{n:Nd}(h:bare (bG ig k).1=[n])(h2:¬(n.t.kind=14/\custom n.t.word=true)):Gm k=none:=by unfold Gm;rw[h];exact if_neg h2
theorem akp{k:List Nd}{n:Nd}(h:bare (bG ig k).1=[n])(h2:n.t.kind=14)(h3:custom n.t.word=true):Gm k=some (n.t.word,(bG ig k).2.1.isSome,bare (bG ig k).2.2):=by unfold Gm;rw[h];exact if_pos ⟨h2,h3⟩
theorem NV(B:Nat)(l:List Nd)(v:Av)(w:WD)(h:Sl (fun b=>b<B) w v l)(hB:B<=w.heap.size):
  Calls prog 282 #[v] w fun e w'=>rdR B w' (Gm l) e/\Below w.heap.size w w':=by
 have FU:=h.len;have HS:=hid h;obtain⟨a,cap,rfl⟩:=h.form;clear h;have B1:Hid (Below w.heap.size w ((w.alloc (.cells #[.string ⟨#[]⟩,.bool false,.slice none 0 0] 327)).alloc (.cells #[.string ⟨#[44]⟩] 9))):=(Ax.alloc nl _).alloc Ab _;have U1:Hid (U3 ((w.alloc (.cells #[.string ⟨#[]⟩,.bool false,.slice none 0 0] 327)).alloc (.cells #[.string ⟨#[44]⟩] 9)) w.heap.size (.string ⟨#[]⟩) (.bool false) (.slice none 0 0)):=(U3.new w _ _ _).below (Ax.alloc nl _);have IE:Hid (∀j,j<1->((w.alloc (.cells #[.string ⟨#[]⟩,.bool false,.slice none 0 0] 327)).alloc (.cells #[.string ⟨#[44]⟩] 9)).cell? ⟨w.heap.size+1,0+j,none⟩=some (.string ([(⟨#[44]⟩:BY)].getD j ByteArray.empty))):=by intro j hj;have hh:=heap_alloc_new (w.alloc (.cells #[.string ⟨#[]⟩,.bool false,.slice none 0 0] 327)) (.cells #[.string ⟨#[44]⟩] 9);rw[World.size_alloc]at hh;unfold World.cell?;rw[hh];obtain rfl:j=0:=oo;rfl
 have hlt1:w.heap.size+1<((w.alloc (.cells #[.string ⟨#[]⟩,.bool false,.slice none 0 0] 327)).alloc (.cells #[.string ⟨#[44]⟩] 9)).heap.size:=by simp
 obtain⟨c,Hc⟩:=Nm (bG ig l);have FB:Hid (jY [⟨#[44]⟩]=ig):=funext al5;go_in;go_wp2_with fail;generalize(w.alloc (.cells #[.string ⟨#[]⟩,.bool false,.slice none 0 0] 327)).alloc (.cells #[.string ⟨#[44]⟩] 9)=w1 at *;have hs1:=B1.o.size;refine(ail B l _ [⟨#[44]⟩] _ w1 (HS.o.below B1.o hB) oo Ab hlt1 IE.o).mono ?_;rw[FB.o];rintro e w2 ⟨v1,sv,v2,rfl,hcut,hb2⟩;obtain⟨t,ka,kl,kc,rfl,hcm⟩:=hcut.com;obtain⟨va,vc,rfl⟩:=hcut.ahead.form;obtain⟨ba,bc,rfl⟩:=hcut.behind.form;have X2:=hid (B1.o.trans (hb2.mono hs1));have U2:Hid (U3 w2 w.heap.size (.string ⟨#[]⟩) (.bool false) (.slice none 0 0)):=U1.o.below hb2;have HA:=hid hcut.ahead
 have HBH:=hid hcut.behind;have HCM:Hid (au t (b1 44)=(bG ig l).2.1.isSome):=hcm;have hs2:=X2.o.size;clear hcut hb2 hcm IE hlt1 B1 U1 FB;unfold fB;have A3:Hid (VB (w2.alloc (.cells #[.int .i64 t.kind,.string t.word,.string t.unit,.slice ka kl kc] 199)) w2.heap.size (.int .i64 t.kind) (.string t.word) (.string t.unit) (.slice ka kl kc)):=VB.new _ _ _ _ _;have X3:Hid (Below w2.heap.size w2 (w2.alloc (.cells #[.int .i64 t.kind,.string t.word,.string t.unit,.slice ka kl kc] 199))):=Ax.alloc nl _;go_upto_region 2 with fail
 generalize w2.alloc (.cells #[.int .i64 t.kind,.string t.word,.string t.unit,.slice ka kl kc] 199)=w3 at *;obtain⟨nb,Gi⟩:=Nm w2.heap.size;have B3:=hid (X2.o.trans (X3.o.mono hs2));have Vm:Hid (U3 w3 w.heap.size (.string ⟨#[]⟩) (.bool false) (.slice none 0 0)):=U2.o.below X3.o;have HA3:=hid (HA.o.below X3.o oo);have HB3:=hid (HBH.o.below X3.o oo);rw[Gi.o]at A3;rw[Gi.o];have hs3:=B3.o.size;have U2l:=U2.o.lt;clear X3 HA HBH U2;obtain⟨hd,YG⟩:=Nm ((bG ig l).1);obtain⟨bh,Hbh⟩:=Nm ((bG ig l).2.2);rw[YG.o]at HA3;rw[Hbh.o]at HB3;rw[YG.o,Hbh.o];go_wp2_with fail;refine(tu B hd _ w3 HA3.o).mono ?_;rintro e wq ⟨tv,rfl,htv,hwq⟩;rw[hwq];clear hwq;have HT:=hid htv;obtain⟨ta,tc,rfl⟩:=htv.form;have ht6:=htv.len;clear htv
 by_cases h1:(bare hd).length=1
 .obtain⟨n,hn⟩:∃n,bare hd=[n]:=List.length_eq_one_iff.1 h1;have HBR:Hid (bare (bG ig l).1=[n]):=by show _=_;rw[YG.o,hn]
  rw[hn]at HT;rw[hn];obtain⟨g,o,nv,cap',e',hN,hcap⟩:=HT.o.head;have e1:ta=some ⟨g,o,none⟩:=by cases e';rfl
  have ec:tc=cap':=by cases e';rfl
  subst e1 ec;obtain⟨c0,c1,c2,c3⟩:_/\_/\_/\_:=⟨hN.c0,hN.c1,hN.c2,hN.c3⟩;have hw:=hN.ok.word;have hgB:g<B:=hN.s;have hcp:1<=tc:=by simpa using hcap
  clear hN e' h1 hn;cases hk:(n.t.kind==14)
  .have HV:Hid (Gm l=none):=ZA HBR.o (by simp at hk;simp[hk]);have hk2:(n.t.kind != 14)=true:=by rw[bne,hk];rfl
   obtain⟨r0,r1,r2⟩:=Vm.o.cs;have f0:=Vm.o.fz 0;have f1:=Vm.o.fz 1;have f2:=Vm.o.fz 2;go_wp2_with fail;refine bodyPost_ret (v:=.tuple #[.agg #[.string ⟨#[]⟩,.bool false,.slice none 0 0],.bool false]) (by simp[results,Tryz.results282,go_sem,r0,r1,r2]) rfl ?_;exact⟨by rw[HV.o];exact rfl,jR B3.o nl _ _ _⟩
  .have hk2:(n.t.kind != 14)=false:=by rw[bne,hk];rfl
   have FX:n.t.kind=14:=by simpa using hk
   have HK:=hid FX;clear FX;go_wp2_with fail;refine(rE n.t.word w3).mono ?_;obtain⟨z,Hz⟩:=Nm (custom n.t.word);rw[Hz.o];rintro ex wq ⟨rfl,hwq⟩;rw[hwq];clear hwq;cases z
   .have HV:Hid (Gm l=none):=ZA HBR.o (fun hh=>by rw[Hz.o]at hh;cases hh.2);obtain⟨r0,r1,r2⟩:=Vm.o.cs;have f0:=Vm.o.fz 0;have f1:=Vm.o.fz 1;have f2:=Vm.o.fz 2;go_wp2_with fail;refine bodyPost_ret (v:=.tuple #[.agg #[.string ⟨#[]⟩,.bool false,.slice none 0 0],.bool false]) (by simp[results,Tryz.results282,go_sem,r0,r1,r2]) rfl ?_;exact⟨by rw[HV.o];exact rfl,jR B3.o nl _ _ _⟩
   .have HV:Hid (Gm l=some (n.t.word,(bG ig l).2.1.isSome,bare bh)):=by
     show _=_;rw[akp HBR.o HK.o Hz.o,Hbh.o]
    rw[<-HCM.o]at HV;have hnb:nb<w3.heap.size:=A3.o.lt;have hRn:w.heap.size<nb:=by have:=Gi.o;have:=U2l;omega
    go_wp2_with fail;refine wp_region_any Ao ?_;change wpAny _ _ _ _ _ _ _ (World.drew _);have sS:Hid ((fun wx:WD=>wx.cell? ⟨g,o+1,none⟩=some (.string n.t.word)/\VB wx nb (.int .i64 t.kind) (.string t.word) (.string t.unit) (.slice ka kl kc)) w3.drew):=⟨c1,A3.o⟩;clear c0 c1 c2 c3;refine wpAny_of_held (S:=(fun wx:WD=>wx.cell? ⟨g,o+1,none⟩=some (.string n.t.word)/\VB wx nb (.int .i64 t.kind) (.string t.word) (.string t.unit) (.slice ka kl kc))) _ _ _ _ ?_;refine dH 0 rfl sS.o (by intro w hSw;obtain⟨s1,s2⟩:=hSw;obtain⟨a0,a1,a2,a3⟩:=VB.cs s2;exact gs) ?_;refine dH 1 rfl sS.o (by intro w hSw;obtain⟨s1,s2⟩:=hSw;obtain⟨a0,a1,a2,a3⟩:=VB.cs s2;exact gs) ?_
    refine dH 2 rfl sS.o (by intro w hSw;obtain⟨s1,s2⟩:=hSw;obtain⟨a0,a1,a2,a3⟩:=VB.cs s2;exact gs) ?_;refine dH 3 rfl sS.o (by intro w hSw;obtain⟨s1,s2⟩:=hSw;obtain⟨a0,a1,a2,a3⟩:=VB.cs s2;exact gs) ?_;refine dH 4 rfl sS.o (by intro w hSw;obtain⟨s1,s2⟩:=hSw;obtain⟨a0,a1,a2,a3⟩:=VB.cs s2;exact gs) ?_;refine dH 5 rfl sS.o (by intro w hSw;obtain⟨s1,s2⟩:=hSw;obtain⟨a0,a1,a2,a3⟩:=VB.cs s2;exact gs) ?_;refine dH 7 rfl sS.o (by intro w hSw;obtain⟨s1,s2⟩:=hSw;obtain⟨a0,a1,a2,a3⟩:=VB.cs s2;exact gs) ?_;refine iW 6 fun K hK=>?_;go_simp;refine(jf t (.slice ka kl kc) ⟨#[44]⟩ w3.drew).mono ?_;obtain⟨y,Hy⟩:=Nm (au t ⟨#[44]⟩);rw[Hy.o];rintro e w4 ⟨rfl,hb4⟩
    have X4:Hid (Below w3.heap.size w3 w4):=(Ax.drew).trans hb4;have HS4:Hid ((fun wx:WD=>wx.cell? ⟨g,o+1,none⟩=some (.string n.t.word)/\VB wx nb (.int .i64 t.kind) (.string t.word) (.string t.unit) (.slice ka kl kc)) w4):=⟨(X4.o.cell (p:=⟨g,o+1,none⟩) (by show g<w3.heap.size;omega)).trans sS.o.1,A3.o.below X4.o⟩;have HB4:=hid (HB3.o.below X4.o oo);clear hb4;refine hK.o _ _ HS4.o (fun _=>?_);clear hK K;refine iW 8 fun K hK=>?_;go_simp;refine(tu B bh _ w4 HB4.o).mono ?_;rintro e wq ⟨fv,rfl,hfv,hwq⟩;rw[hwq];clear hwq;have HFV:=hid hfv;obtain⟨fa,fc,rfl⟩:=hfv.form;clear hfv;obtain⟨fl,Hfl⟩:=Nm ((bare bh).length);rw[Hfl.o]at HFV;rw[Hfl.o];refine hK.o _ _ HS4.o (fun _=>?_);clear hK K;refine dH 9 rfl HS4.o (fun _ _=>gs) ?_;have U4:=hid (Vm.o.below X4.o)
    obtain⟨r0,r1,r2⟩:=U4.o.cs;have f0:=U4.o.fz 0;have f1:=U4.o.fz 1;have f2:=U4.o.fz 2;have B4:=hid (B3.o.trans (X4.o.mono hs3));refine iW 10 fun K hK=>?_;go_simp;have HS5:Hid ((fun wx:WD=>wx.cell? ⟨g,o+1,none⟩=some (.string n.t.word)/\VB wx nb (.int .i64 t.kind) (.string t.word) (.string t.unit) (.slice ka kl kc)) (((w4.setCell ⟨w.heap.size,0,none⟩ (.string n.t.word)).setCell ⟨w.heap.size,1,none⟩ (.bool y)).setCell ⟨w.heap.size,2,none⟩ (.slice fa fl fc))):=by
     refine⟨?_,?_⟩
     .rw[World.cell?_of_block (w:=w4) (a:=⟨g,o+1,none⟩) (by rw[Below.heap_setCell _ _ _ _ (by show g≠w.heap.size;omega),Below.heap_setCell _ _ _ _ (by show g≠w.heap.size;omega),Below.heap_setCell _ _ _ _ (by show g≠w.heap.size;omega)])];exact HS4.o.1
     .show _=_;rw[Below.heap_setCell _ _ _ _ (by show nb≠w.heap.size;omega),Below.heap_setCell _ _ _ _ (by show nb≠w.heap.size;omega),Below.heap_setCell _ _ _ _ (by show nb≠w.heap.size;omega)];exact HS4.o.2
    refine hK.o _ _ HS5.o (fun _=>?_);clear hK K;refine dH 11 rfl HS5.o (fun _ _=>gs) ?_;refine wpAnyH_done Ao ?_ _;have B5:Hid (Below w.heap.size w (((w4.setCell ⟨w.heap.size,0,none⟩ (.string n.t.word)).setCell ⟨w.heap.size,1,none⟩ (.bool y)).setCell ⟨w.heap.size,2,none⟩ (.slice fa fl fc))):=jR B4.o nl _ _ _;have HF5:Hid (Sl (fun b=>b<B) (((w4.setCell ⟨w.heap.size,0,none⟩ (.string n.t.word)).setCell ⟨w.heap.size,1,none⟩ (.bool y)).setCell ⟨w.heap.size,2,none⟩ (.slice fa fl fc)) (.slice fa fl fc) (bare bh)):=HFV.o.below (jR (Below.refl w.heap.size w4) nl _ _ _) hB;have HVY:Hid (Gm l=some (n.t.word,y,bare bh)):=by show _=_;rw[HV.o];show some (n.t.word,au t (b1 44),bare bh)=_;rw[show au t (b1 44)=y from Hy.o]
    go_wp2_with fail;refine bodyPost_ret (v:=.tuple #[.agg #[.string n.t.word,.bool y,.slice fa fl fc],.bool true]) (by simp[results,Tryz.results282,go_sem,r0,r1,r2]) rfl ?_;exact⟨by rw[HVY.o];exact⟨_,rfl,HF5.o,hw⟩,B5.o⟩
 .have HV:Hid (Gm l=none):=ako (by rw[YG.o];exact h1);have e1:(((bare hd).length:Int)==1)=false:=by
   rw[beq_eq_false_iff_ne];omega
  have e2:(((bare hd).length:Int) != 1)=true:=by rw[bne,e1];rfl
  obtain⟨r0,r1,r2⟩:=Vm.o.cs;have f0:=Vm.o.fz 0;have f1:=Vm.o.fz 1;have f2:=Vm.o.fz 2;go_wp2_with fail;refine bodyPost_ret (v:=.tuple #[.agg #[.string ⟨#[]⟩,.bool false,.slice none 0 0],.bool false]) (by simp[results,Tryz.results282,go_sem,r0,r1,r2]) rfl ?_;exact⟨by rw[HV.o];exact rfl,jR B3.o nl _ _ _⟩
end
