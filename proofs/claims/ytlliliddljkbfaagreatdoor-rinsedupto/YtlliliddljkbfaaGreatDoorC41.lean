import Derived.Test.YtlliliddljkbfaaGreatDoorC25
import Derived.Test.YtlliliddljkbfaaGreatDoorC40
import Derived.Deep.DeepCutAuto
import Derived.Deep.Light
namespace Go.Proofs.YtlliliddljkbfaaGreatDoor
set_option maxHeartbeats 64000000
set_option maxRecDepth 100000
open Go.Proofs.Tryz (prog)
open Go.RowKit Sp
theorem ab1 (W : World) : (method 498 303 (.agg #[]) "rinse/selectors.written").run prog W = .ok (342, .agg #[]) W := by kernel_rfl
theorem m_tag (nm : ByteArray) (W : World) : (method 498 301 (.agg #[.string nm]) "rinse/selectors.written").run prog W = .ok (336, .agg #[.string nm]) W := by kernel_rfl
theorem aeM (nm : ByteArray) (W : World) : (method 498 324 (.agg #[.string nm]) "rinse/selectors.written").run prog W = .ok (345, .agg #[.string nm]) W := by kernel_rfl
theorem aad (nm : ByteArray) (W : World) : (method 498 325 (.agg #[.string nm]) "rinse/selectors.written").run prog W = .ok (349, .agg #[.string nm]) W := by kernel_rfl
theorem aae (nm : ByteArray) (W : World) : (method 498 345 (.agg #[.string nm]) "rinse/selectors.written").run prog W = .ok (367, .agg #[.string nm]) W := by kernel_rfl
theorem ab2 (nm h v : ByteArray) (W : World) : (method 498 343 (.agg #[.string nm, .string h, .string v]) "rinse/selectors.written").run prog W = .ok (353, .agg #[.string nm, .string h, .string v]) W := by kernel_rfl
theorem Ky (nm : ByteArray) (n : Int) (W : World) : (method 498 357 (.agg #[.string nm, .int .i64 n]) "rinse/selectors.written").run prog W = .ok (383, .agg #[.string nm, .int .i64 n]) W := by kernel_rfl
theorem adL (la : Option Addr) (ll lc : Nat) (W : World) : (method 498 347 (.agg #[.slice la ll lc]) "rinse/selectors.written").run prog W = .ok (376, .agg #[.slice la ll lc]) W := by kernel_rfl
theorem aeN (la : Option Addr) (ll lc : Nat) (W : World) : (method 498 348 (.agg #[.slice la ll lc]) "rinse/selectors.written").run prog W = .ok (380, .agg #[.slice la ll lc]) W := by kernel_rfl
def Road (pv : Value) (o : ByteArray) (w : World) : Prop := ∃ T u K rcv, pv = .iface T u ∧ (∀ W : World, (method 498 T u "rinse/selectors.written").run prog W = .ok (K, rcv) W) ∧ (∀ (args : Array Value) (W : World), (callFunc K args).run prog W = .ok (.enter K args) W) ∧
 Calls prog K #[rcv] w fun e w''=>e=.returned (.string o)/\Below w.heap.size w w''
theorem road(k:Nat)(nm how v:ByteArray)(l:fC)(p:Nat)(la:Option Addr)(ll lc:Nat)(w:World)(hq:PrN k nm how v p)(hI:eX w)(hd:ig)(hz:(gU aA l).size<=549755813888)
  (hL:∀w',Below w.heap.size w w'->Calls prog 333 #[.slice la ll lc] w' fun e w''=>e=.returned (.string (gU aA l))/\Below w'.heap.size w' w''):
  Road (jE k nm how v (.slice la ll lc) p) (sK (.mk k nm how v l p)) w:=by
 have hn:=hq.nmz;unfold jE;conv=>arg 2;unfold sK
 by_cases k1:k=116
 .rw[if_pos k1,if_pos k1];by_cases e:nm=aA
  .rw[if_pos e,if_pos e];exact⟨_,_,_,_,rfl,ab1,fun _ _=>rfl,ZK w⟩
  .rw[if_neg e,if_neg e];exact⟨_,_,_,_,rfl,m_tag nm,fun _ _=>rfl,abL nm w hn⟩
 rw[if_neg k1,if_neg k1];by_cases k2:k=35
 .rw[if_pos k2,if_pos k2];exact⟨_,_,_,_,rfl,aeM nm,fun _ _=>rfl,adx nm w hn⟩
 rw[if_neg k2,if_neg k2];by_cases k3:k=46
 .rw[if_pos k3,if_pos k3];exact⟨_,_,_,_,rfl,aad nm,fun _ _=>rfl,WW nm w hn⟩
 rw[if_neg k3,if_neg k3];by_cases k4:k=91
 .rw[if_pos k4,if_pos k4];exact⟨_,_,_,_,rfl,ab2 nm how v,fun _ _=>rfl,ZL nm how v w hn hq.hwz hq.val⟩
 rw[if_neg k4,if_neg k4];by_cases k5:nm=lg
 .rw[if_pos k5,if_pos (.inl k5)];subst k5;exact⟨_,_,_,_,rfl,adL la ll lc,fun _ _=>rfl,abN la ll lc _ w hz hL⟩
 rw[if_neg k5];by_cases k6:nm=xB
 .rw[if_pos k6,if_pos (.inr k6)];subst k6;exact⟨_,_,_,_,rfl,aeN la ll lc,fun _ _=>rfl,ady la ll lc _ w hz hL⟩
 rw[if_neg k6,if_neg (show ¬(nm=lg\/nm=xB) from fun h=>h.elim k5 k6)];by_cases k7:nm=iR
 .rw[if_pos k7,if_pos k7];subst k7;by_cases p0:p=0
  .rw[if_pos p0,if_pos p0];exact⟨_,_,_,_,rfl,Ky qC 0,fun _ _=>rfl,MZ qC w (by rw[fP];rfl) (by decide)⟩
  rw[if_neg p0,if_neg p0];by_cases p1:p=1
  .rw[if_pos p1,if_pos p1];exact⟨_,_,_,_,rfl,Ky kH 0,fun _ _=>rfl,MZ kH w (by rw[fP];rfl) (by decide)⟩
  rw[if_neg p1,if_neg p1];have hp:=hq.place;exact⟨_,_,_,_,rfl,Ky aA _,fun _ _=>rfl,WY (p-2) w oo hI (hd _ oo)⟩
 rw[if_neg k7,if_neg k7];exact⟨_,_,_,_,rfl,aae nm,fun _ _=>rfl,WX nm w hn⟩
theorem Ji:∀(r:fC) (c:List Step),gI (b1 44) ((c::r).map dJ)=dJ c++oZ aA r
 |[],c=>by show dJ c=dJ c++oZ aA [];unfold oZ;exact(jL _).symm
 |d::q,c=>by
  have ih:=Ji q d;show dJ c++(b1 44++gI (b1 44) ((d::q).map dJ))=_;rw[ih];conv=>rhs;unfold oZ
  rw[dP]
theorem XB(ss:fC):gI (b1 44) (ss.map dJ)=gU aA ss:=by
 cases ss with
 |nil=>rfl
 |cons c r=>rw[Ji];unfold gU;rw[dP]
theorem RV(hd:ig):∀(ss:fC),uF ss->total (ss.map dJ)+ss.length<=zL ss
 |[],_=>by simp[total]
 |c::r,hq=>by simp only[uF]at hq;have:=RV hd r hq.2;have:=pR hd c hq.1;unfold zL;simp only[List.map_cons,total,List.length_cons];omega
theorem Qq:∀(ss:fC) (i:Nat) (h:i<ss.length),zC ss[i]<=zL ss
 |c::r,0,_=>by unfold zL;simp;omega
 |c::r,i+1,h=>by have:=Qq r i (by simpa using h);unfold zL;simp only[List.getElem_cons_succ];omega
theorem LG.cpx{f:Nat}{S:Nat->Prop}{w:World}{l:fC}{g o i:Nat}(h:LG (KN (dF f)) 1 S w l g o)(hi:i<l.length):∃cv,w.cell? ⟨g,o+i,none⟩=some cv/\SG (kU (dF f)) 2 S w cv l[i]:=by obtain⟨h0,cs,⟨cv,rfl,hs⟩,hc⟩:=h.at l g o i hi;refine⟨cv,?_,hs⟩;have:=hc 0 _ rfl;rw[Nat.mul_one,Nat.add_zero]at this;exact this
theorem RX(f B:Nat)(ss:fC)(v:Value)(w:World)(h:SG (KN (dF f)) 1 (fun b=>b<B) w v ss)(hB:B<=w.heap.size)(hP:ss≠[]->∀w',Below w.heap.size w w'->NK f B w')(hq:uF ss)(hz:zL ss<=549755813888)(hd:ig):
  Calls prog 333 #[v] w fun e w'=>e=.returned (.string (gU aA ss))/\Below w.heap.size w w':=by
 have hl:=h.len;have HS:Hid (SG (KN (dF f)) 1 (fun b=>b<B) w v ss):=h;have HP:Hid (ss≠[]->∀w',Below w.heap.size w w'->NK f B w'):=hP;have HQ:Hid (uF ss):=hq;have hF:Hid (Fair (kU (dF f))):=kU.fair (dF.fair f);have yj:Hid (gI (b1 44) (ss.map dJ)=gU aA ss):=XB ss;have htot:=RV hd ss hq;obtain⟨a,cap,rfl⟩:=h.form;clear h hP hq;obtain⟨iS,uh⟩:=jV;have HI:Hid (prog.info? 9=some iS/\iS.zero=some (.string ⟨#[]⟩)/\iS.size=1/\iS.bytes=16):=uh;clear uh;go_in;go_wp2_with fail;go_loopg[3,8] ss.length (fun gg v3 v8 wr=>∃(u:Value) (i:Nat),u=v3/\v8=.int .i64 (i:Int)/\i+gg=ss.length/\Aside (wr.ownsRow w.heap.size 9 1 u i (((ss.take i).map dJ).map Value.string)/\Below w.heap.size w wr));case atStart=>exact⟨_,0,rfl,rfl,oo,World.ownsRow_nil _ _ _ _,Below.refl _ _⟩
 case round=>
  obtain⟨u,i,rfl,rfl,hi,hA⟩:=hrel;have O1:Hid (wr.ownsRow w.heap.size 9 1 u i (((ss.take i).map dJ).map Value.string)):=hA.o.1;have B1:Hid (Below w.heap.size w wr):=hA.o.2;clear hA;have hsr:=B1.o.size;by_cases hlt:i<ss.length
  .have h1:(i:Int)<(ss.length:Int):=oo;obtain⟨g,o,rfl,hL,hcap⟩:=HS.o.here (by rintro rfl;simp at hlt);have hgB:g<B:=(hL.at ss g o i hlt).1;obtain⟨cv,d0,hcv⟩:=hL.cpx (i:=i) hlt;rw[<-B1.o.cell (p:=⟨g,_,none⟩) (show g<w.heap.size by omega)]at d0;have HT:Hid (ss.take (i+1)=ss.take i++[ss[i]]):=List.take_succ_eq_append_getElem hlt;have hqc:=Qb ss i HQ.o hlt;have hzc:=Qq ss i hlt;obtain⟨cx,hcx⟩:∃c,c=ss[i]:=⟨_,rfl⟩;rw[<-hcx]at hcv HT hqc hzc;obtain⟨ca,cc,rfl⟩:=hcv.form;have HW:Hid (Calls prog 177 #[.slice ca cx.length cc] wr fun e w'=>e=.returned (.string (dJ cx))/\Below wr.heap.size wr w'):=
    Jh f B cx _ wr (hcv.below hF.o B1.o hB) oo (HP.o (by rintro rfl;simp at hlt) wr B1.o) hqc oo hd
   clear hL hcx hcv hqc hzc;go_wp2_with fail;refine HW.o.mono ?_;obtain⟨x,Hx⟩:∃x,Hid (dJ cx=x):=⟨_,hid rfl⟩;rw[Hx.o];rintro e w2 ⟨rfl,hb2⟩;have B2:Hid (Below w.heap.size w w2):=B1.o.trans (hb2.mono hsr);have O2:Hid (w2.ownsRow w.heap.size 9 1 u i (((ss.take i).map dJ).map Value.string)):=aX O1.o fun r hr=>hb2.block r (O1.o.lt r hr).2;have hs2:=B2.o.size;clear hb2 HW d0;go_wp2_with(at_builtin;go_must(refine wpList_append_own _ rfl _ _ 22 rfl w.heap.size 9 iS (.string ⟨#[]⟩) 1 16 Tryz.underlying22 HI.o.1 HI.o.2.1 HI.o.2.2.1 HI.o.2.2.2 rfl oo u i (((ss.take i).map dJ).map Value.string) rfl (O2.o.alloc _) ⟨w2.heap.size,0,none⟩ 1 1 [.string x] rfl rfl (cell_one_new _ _ _) (bf _) (by unfold maxLen;omega) oo (by simp;omega) ?_));intro v4 w4 hown4 bG _
   rw[show List.take i (List.map (Value.string ∘ dJ) ss)=List.map Value.string (List.map dJ (List.take i ss)) by simp]at hown4;have O4:Hid (w4.ownsRow w.heap.size 9 1 v4 (i+1) (((ss.take (i+1)).map dJ).map Value.string)):=by show World.ownsRow _ _ _ _ _ _ _;rw[HT.o,List.map_append,List.map_append,List.map_cons,List.map_nil,Hx.o];exact hown4
   have B4:Hid (Below w.heap.size w w4):=(B2.o.alloc hs2 _).grown bG (by simp;omega) (fun rr hr=>(O2.o.lt rr hr).1);clear hown4 bG;go_wp2_with fail;go_roundg(gk-1);case measure=>omega
   case rel=>exact⟨v4,i+1,rfl,by congr 1,oo,O4.o,B4.o⟩
  .have h1:(ss.length:Int)<=(i:Int):=oo;have hie:i=ss.length:=oo;subst hie;have O5:Hid (wr.ownsRow w.heap.size 9 1 u (ss.map dJ).length ((ss.map dJ).map Value.string)):=by
    have:=O1.o;rw[List.take_of_length_le nl]at this;show World.ownsRow _ _ _ _ _ _ _;rw[List.length_map];exact this
   go_wp2_with fail;refine(Fz (b1 44) (ss.map dJ) w.heap.size u _ O5.o (by rw[List.length_map];omega) (by unfold WS;rw[List.length_map];show _+ss.length*1<=_;omega)).mono ?_;rw[yj.o];rintro e w5 ⟨rfl,hb5⟩;have B5:Hid (Below w.heap.size w w5):=B1.o.trans (hb5.mono hsr);clear hb5;go_wp2_with fail;go_ret;exact⟨rfl,B5.o⟩
theorem Jj(hd:ig):∀(f B:Nat) (w:World),eX w->B<=w.heap.size->NK f B w
 |0,B,w,hI,hB=>by intro s pv w' hb hps hq hz;obtain⟨k,nm,how,v,l,p⟩:=s;obtain⟨rfl,a,c,e⟩:=hps;obtain rfl:pv=jE k nm how v (.slice a 0 c) p:=(List.cons.inj e).1;simp only[Na]at hq;refine road k nm how v [] p a 0 c w' hq.1 (hI.below hb nl) hd (by decide) ?_;intro w2 hb2;exact RX 0 B [] _ w2 (SG.iG _ _ _ _ _ _) (by have:=hb.size;have:=hb2.size;omega) (fun h=>absurd rfl h) (by simp[uF]) (by decide) hd
 |f+1,B,w,hI,hB=>by
  intro s pv w' hb hps hq hz;obtain⟨k,nm,how,v,l,p⟩:=s;obtain⟨lv,e,hsg⟩:=hps;obtain rfl:pv=jE k nm how v lv p:=(List.cons.inj e).1;obtain⟨la,lc,rfl⟩:=hsg.form;simp only[Na]at hq;have hs:=hb.size;have hzl:zL l<=549755813888:=by unfold zS at hz;omega
  refine road k nm how v l p la l.length lc w' hq.1 (hI.below hb nl) hd (Nat.le_trans (yR hd l hq.2) hzl) ?_;intro w2 hb2;have hs2:=hb2.size;exact RX f B l _ w2 (hsg.below (One.fair (kU.fair (dF.fair f))) hb2 oo) oo (fun _ w3 hb3=>Jj hd f B w3 (((hI.below hb nl).below hb2 nl).below hb3 nl) (by have:=hb3.size;omega)) hq.2 hzl hd
theorem ab3(f B:Nat)(cx:List Step)(v:Value)(w:World)(h:SG (kU (dF f)) 2 (fun b=>b<B) w v cx)(hB:B<=w.heap.size)(hI:eX w)(hq:Nb cx)(hz:zC cx<=549755813888)(hd:ig):
  Calls prog 177 #[v] w fun e w'=>e=.returned (.string (dJ cx))/\Below w.heap.size w w':=
 Jh f B cx v w h hB (Jj hd f B w hI hB) hq hz hd
def vP(h b:ByteArray):ByteArray:=if b=aA then aA else h++(b1 123++(b++b1 125))
theorem NM(h b:ByteArray)(w:World)(hs:h.size+b.size<=1099511627770):Calls prog 100 #[.string h,.string b] w fun e w'=>e=.returned (.string (vP h b))/\Below w.heap.size w w':=by
 by_cases he:b.toList=[]
 .have hn:b=aA:=by
   have:=aH b [];rw[he]at this;exact of_decide_eq_true this.symm
  have HV:Hid (vP h b=aA):=by show _=_;unfold vP;rw[if_pos hn]
  clear hn;go_in;go_wp2_with fail;go_ret;exact⟨iW HV.o.symm,Below.refl _ _⟩
 .have hn:¬b=aA:=fun e=>he (by rw[e,fP];rfl);have hib:(b.toList==[])=false:=by cases hq:b.toList with|nil=>exact absurd hq he|cons _ _=>rfl
  have HV:Hid (aB [h,⟨#[123]⟩,b,⟨#[125]⟩]=vP h b):=by show _=_;unfold vP;rw[if_neg hn];simp[aB,b1]
  clear hn;go_in;go_wp2_with fail;refine pmb (eG [h,⟨#[123]⟩,b,⟨#[125]⟩] w.heap.size _ _ (row4 w h ⟨#[123]⟩ b ⟨#[125]⟩) (by simp) (by show h.size+(1+(b.size+(1+0)))<=_;omega)) fun w5 hb5=>?_;have B5:Hid (Below w.heap.size w w5):=(bI w _).trans (hb5.mono (by simp));clear hb5;go_wp2_with fail;go_ret;exact⟨iW HV.o,B5.o⟩
theorem Uw(d:Dec):(kD d).size<=4*d.prop.size+fB d.val+20:=by
 have h1:=bZ d.prop;have h2:=gZ d.val;have e:(b1 58).size=1:=rfl;have e2:(if d.imp=true then SQ else aA).size<=10:=by split<;>decide
 unfold kD;rw[ByteArray.size_append,ByteArray.size_append,ByteArray.size_append,e];omega
theorem Iq(B:Nat)(d:Dec)(vv:Value)(w:World)(h:Sl (fun b=>b<B) w vv d.val)(hB:B<=w.heap.size)(hp:d.prop.size<=4000000)(hz:fB d.val<=549755813888):
  Calls prog 180 #[.agg #[.string d.prop,vv,.bool d.imp]] w fun e w'=>e=.returned (.string (kD d))/\Below w.heap.size w w':=by
 obtain⟨va,vc,rfl⟩:=h.form;have B2:Hid (Below w.heap.size w (w.alloc (.cells #[.string d.prop,.slice va d.val.length vc,.bool d.imp] 229)).drew):=nN _ _;have A2:Hid (Q3 229 (w.alloc (.cells #[.string d.prop,.slice va d.val.length vc,.bool d.imp] 229)).drew w.heap.size (.string d.prop) (.slice va d.val.length vc) (.bool d.imp)):=Q3.new _ _ _ _ _;have S2:Hid (Sl (fun b=>b<B) (w.alloc (.cells #[.string d.prop,.slice va d.val.length vc,.bool d.imp] 229)).drew (.slice va d.val.length vc) d.val):=h.below B2.o hB;clear h;obtain⟨nm,iZ⟩:∃o,Hid (bC d.prop=o):=⟨_,hid rfl⟩;obtain⟨tx,PK⟩:∃o,Hid (Sp.written d.val=o):=⟨_,hid rfl⟩;have hs1:nm.size<=4*d.prop.size:=by rw[<-iZ.o];exact bZ _
 have hs3:tx.size<=fB d.val:=by rw[<-PK.o];exact gZ _
 cases hi:d.imp;focus
  rw[hi]at B2 A2 S2;have HV:Hid (aB [nm,⟨#[58]⟩,tx,⟨#[]⟩]=kD d):=by show _=_;unfold kD;rw[iZ.o,PK.o,hi];simp[aB,b1,aA]
  go_in;go_wp2_with fail;refine wp_region_any (by kernel_rfl) ?_;change wpAny _ _ _ _ _ _ _ (World.drew _);generalize(w.alloc (.cells #[.string d.prop,.slice va d.val.length vc,.bool false] 229)).drew=w2 at *;have hsz2:=B2.o.size;refine wpAny_of_held (S:=fun wx=>Q3 229 wx w.heap.size (.string d.prop) (.slice va d.val.length vc) (.bool false)) _ _ _ _ ?_;refine bY 0 rfl A2.o (by intro w hSw;obtain⟨a0,a1,a2⟩:=hSw.cs;exact gs) ?_;refine bY 1 rfl A2.o (by intro w hSw;obtain⟨a0,a1,a2⟩:=hSw.cs;exact gs) ?_;refine bY 3 rfl A2.o (by intro w hSw;obtain⟨a0,a1,a2⟩:=hSw.cs;exact gs) ?_;refine bY 4 rfl A2.o (by intro w hSw;obtain⟨a0,a1,a2⟩:=hSw.cs;exact gs) ?_
  refine bY 6 rfl A2.o (by intro w hSw;obtain⟨a0,a1,a2⟩:=hSw.cs;exact gs) ?_;refine jh 2 fun K hK=>?_;go_simp;refine(oC d.prop _ hp).mono ?_;rw[iZ.o];rintro e w3 ⟨rfl,hb3⟩;have B3:Hid (Below w.heap.size w w3):=B2.o.trans (hb3.mono hsz2);have A4:Hid (Q3 229 w3 w.heap.size (.string d.prop) (.slice va d.val.length vc) (.bool false)):=A2.o.below hb3;have S3:Hid (Sl (fun b=>b<B) w3 (.slice va d.val.length vc) d.val):=S2.o.below hb3 oo;have hsz3:=B3.o.size;clear hb3 S2;refine hK.o _ _ A4.o (fun _=>?_);clear hK K;refine jh 5 fun K hK=>?_;go_simp;refine(E5 d.val B _ w3 S3.o oo hz).mono ?_;rw[PK.o];rintro e w4 ⟨rfl,hb4⟩;have B4:Hid (Below w.heap.size w w4):=B3.o.trans (hb4.mono hsz3);have A5:Hid (Q3 229 w4 w.heap.size (.string d.prop) (.slice va d.val.length vc) (.bool false)):=A4.o.below hb4;have ab4:=B4.o.size;clear hb4
  refine hK.o _ _ A5.o (fun _=>?_);clear hK K;refine jh 7 fun K hK=>?_;go_simp;refine hK.o _ _ (A5.o.below (bI _ _)) (fun _=>?_);clear hK K;refine jh 8 fun K hK=>?_;go_simp;refine pmb (eG [nm,⟨#[58]⟩,tx,⟨#[]⟩] w4.heap.size _ _ (row4 w4 nm ⟨#[58]⟩ tx ⟨#[]⟩) (by simp) (by show nm.size+(1+(tx.size+(0+0)))<=_;omega)) fun w5 hb5=>?_;have B5:Hid (Below w.heap.size w w5):=(B4.o.alloc ab4 _).trans (hb5.mono (by simp;omega));have A6:Hid (Q3 229 w5 w.heap.size (.string d.prop) (.slice va d.val.length vc) (.bool false)):=(A5.o.below (bI _ _)).below hb5
 rotate_left;focus
  rw[hi]at B2 A2 S2;have HV:Hid (aB [nm,⟨#[58]⟩,tx,⟨#[33,105,109,112,111,114,116,97,110,116]⟩]=kD d):=by show _=_;unfold kD;rw[iZ.o,PK.o,hi];simp[aB,b1,SQ]
  go_in;go_wp2_with fail;refine wp_region_any (by kernel_rfl) ?_;change wpAny _ _ _ _ _ _ _ (World.drew _);generalize(w.alloc (.cells #[.string d.prop,.slice va d.val.length vc,.bool true] 229)).drew=w2 at *;have hsz2:=B2.o.size;refine wpAny_of_held (S:=fun wx=>Q3 229 wx w.heap.size (.string d.prop) (.slice va d.val.length vc) (.bool true)) _ _ _ _ ?_;refine bY 0 rfl A2.o (by intro w hSw;obtain⟨a0,a1,a2⟩:=hSw.cs;exact gs) ?_;refine bY 1 rfl A2.o (by intro w hSw;obtain⟨a0,a1,a2⟩:=hSw.cs;exact gs) ?_;refine bY 3 rfl A2.o (by intro w hSw;obtain⟨a0,a1,a2⟩:=hSw.cs;exact gs) ?_;refine bY 4 rfl A2.o (by intro w hSw;obtain⟨a0,a1,a2⟩:=hSw.cs;exact gs) ?_
  refine bY 6 rfl A2.o (by intro w hSw;obtain⟨a0,a1,a2⟩:=hSw.cs;exact gs) ?_;refine jh 2 fun K hK=>?_;go_simp;refine(oC d.prop _ hp).mono ?_;rw[iZ.o];rintro e w3 ⟨rfl,hb3⟩;have B3:Hid (Below w.heap.size w w3):=B2.o.trans (hb3.mono hsz2);have A4:Hid (Q3 229 w3 w.heap.size (.string d.prop) (.slice va d.val.length vc) (.bool true)):=A2.o.below hb3;have S3:Hid (Sl (fun b=>b<B) w3 (.slice va d.val.length vc) d.val):=S2.o.below hb3 oo;have hsz3:=B3.o.size;clear hb3 S2;refine hK.o _ _ A4.o (fun _=>?_);clear hK K;refine jh 5 fun K hK=>?_;go_simp;refine(E5 d.val B _ w3 S3.o oo hz).mono ?_;rw[PK.o];rintro e w4 ⟨rfl,hb4⟩;have B4:Hid (Below w.heap.size w w4):=B3.o.trans (hb4.mono hsz3);have A5:Hid (Q3 229 w4 w.heap.size (.string d.prop) (.slice va d.val.length vc) (.bool true)):=A4.o.below hb4;have ab4:=B4.o.size;clear hb4
  refine hK.o _ _ A5.o (fun _=>?_);clear hK K;refine jh 7 fun K hK=>?_;go_simp;refine hK.o _ _ (A5.o.below (bI _ _)) (fun _=>?_);clear hK K;refine jh 8 fun K hK=>?_;go_simp;refine pmb (eG [nm,⟨#[58]⟩,tx,⟨#[33,105,109,112,111,114,116,97,110,116]⟩] w4.heap.size _ _ (row4 w4 nm ⟨#[58]⟩ tx _) (by simp) (by show nm.size+(1+(tx.size+(10+0)))<=_;omega)) fun w5 hb5=>?_;have B5:Hid (Below w.heap.size w w5):=(B4.o.alloc ab4 _).trans (hb5.mono (by simp;omega));have A6:Hid (Q3 229 w5 w.heap.size (.string d.prop) (.slice va d.val.length vc) (.bool true)):=(A5.o.below (bI _ _)).below hb5
 rotate_left;all_goals
  clear hb5;refine hK.o _ _ A6.o (fun _=>?_);clear hK K;refine jh 9 fun K hK=>?_;go_simp;refine hK.o _ _ (A6.o) (fun _=>?_);clear hK K;refine wpAnyH_done (by kernel_rfl) ?_ _;go_wp2_with fail;go_ret;exact⟨iW HV.o,B5.o⟩
theorem F5(h:List Nd):(mD h).size<=fB h+1:=by
 unfold mD;split
 .show 0<=_;omega
 .have:=gZ h;rw[ByteArray.size_append];show 1+_<=_;omega
theorem XD(B:Nat)(nm:ByteArray)(hd:List Nd)(v:Value)(w:World)(h:Sl (fun b=>b<B) w v hd)(hB:B<=w.heap.size)(hn:nm.size<=4000000)(hz:fB hd<=549755813888):
  Calls prog 101 #[.string nm,v] w fun e w'=>e=.returned (.string (b1 64++(bC nm++mD hd)))/\Below w.heap.size w w':=by
 have hl:=h.len;have HS:Hid (Sl (fun b=>b<B) w v hd):=h;obtain⟨va,vc,rfl⟩:=h.form;clear h;obtain⟨o,Ho⟩:∃o,Hid (bC nm=o):=⟨_,hid rfl⟩;have hs1:o.size<=4*nm.size:=by rw[<-Ho.o];exact bZ _
 rw[Ho.o];obtain⟨q,Hq⟩:∃q,Hid (aB [⟨#[64]⟩,o]=q):=⟨_,hid rfl⟩;have HQ2:Hid (q=b1 64++o):=by show _=_;rw[<-Hq.o];simp[aB,b1]
 have hsq:q.size<=4*nm.size+1:=by rw[HQ2.o,ByteArray.size_append];show 1+o.size<=_;omega
 go_in;go_wp2_with fail;refine(oC nm _ hn).mono ?_;rw[Ho.o];rintro e w1 ⟨rfl,hb1⟩;have B1:Hid (Below w.heap.size w w1):=hb1;have hw1:=hb1.size;clear hb1;go_wp2_with fail;refine(eG [⟨#[64]⟩,o] w1.heap.size _ _ (Zf w1 ⟨#[64]⟩ o) (by simp) (by show 1+(o.size+0)<=_;omega)).mono ?_;rw[Hq.o];rintro e w2 ⟨rfl,hb2⟩;have B2:Hid (Below w.heap.size w w2):=(B1.o.alloc hw1 _).trans (hb2.mono (by simp;omega));have hw2:=B2.o.size;clear hb2;by_cases hz0:hd.length=0
 .obtain rfl:hd=[]:=List.eq_nil_of_length_eq_zero hz0;have HV:Hid (q=b1 64++(o++mD [])):=by show _=_;rw[HQ2.o];show _=b1 64++(o++aA);rw[jL]
  clear hz0;go_wp2_with fail;go_ret;exact⟨iW HV.o,B2.o⟩
 .have hne:(((hd.length:Nat):Int)==0)=false:=by rw[beq_eq_false_iff_ne];omega
  obtain⟨tx,PK⟩:∃o,Hid (Sp.written hd=o):=⟨_,hid rfl⟩;have hs3:tx.size<=fB hd:=by rw[<-PK.o];exact gZ _
  have HV:Hid (aB [q,⟨#[32]⟩,tx]=b1 64++(o++mD hd)):=by show _=_;unfold mD;rw[if_neg (by rintro rfl;simp at hz0),PK.o,HQ2.o];simp[aB,b1,ByteArray.append_assoc]
  clear hz0;go_wp2_with fail;refine(E5 hd B _ w2 (HS.o.below B2.o hB) oo hz).mono ?_;rw[PK.o];rintro e w4 ⟨rfl,hb4⟩;have B4:Hid (Below w.heap.size w w4):=B2.o.trans (hb4.mono hw2);have hw4:=B4.o.size;clear hb4;go_wp2_with fail;refine pmb (eG [q,⟨#[32]⟩,tx] w4.heap.size _ _ (row3 w4 q ⟨#[32]⟩ tx) (by simp) (by show q.size+(1+(tx.size+0))<=_;omega)) fun w5 hb5=>?_;have B5:Hid (Below w.heap.size w w5):=(B4.o.alloc hw4 _).trans (hb5.mono (by simp;omega));clear hb5;go_wp2_with fail;go_ret;exact⟨iW HV.o,B5.o⟩
theorem RY(ok:Nat->UInt8->Bool):∀(l:List UInt8) (i:Nat),(∀j (h:j<l.length),ok (i+j) l[j]=true)->qR ok i l=⟨l.toArray⟩
 |[],i,_=>rfl
 |c::r,i,h=>by
  have h0:=h 0 (by simp);simp at h0;unfold qR;rw[if_pos h0,RY ok r (i+1) (fun j hj=>by have:=h (j+1) (by simpa using hj);simpa[Nat.add_assoc,Nat.add_comm 1 j]using this)];apply ByteArray.ext
  rw[ByteArray.data_append];simp[b1]
theorem Ux{s:ByteArray}(h:allB iM s=true):bC s=s:=by
 unfold bC;rw[RY];intro j hj;have hc:iM s.data.toList[j]=true:=by unfold allB at h;rw[List.all_eq_true]at h;exact h _ (List.getElem_mem _)
 generalize s.data.toList[j]=c at *;unfold iM at hc;simp only[Bool.and_eq_true,decide_eq_true_eq]at hc;unfold bn oz ou;rw[if_neg (by simp;omega),if_neg (by rintro rfl;simp at hc)];simp;omega
def jl(root:ByteArray):ByteArray:=if root=aA then aA else b1 46++(root++b1 32)
theorem F6(a:ByteArray):∀(r:fC) (c:List Step),gI (b1 44) ((c::r).map (fun x=>a++dJ x))=a++(dJ c++oZ a r)
 |[],c=>by show a++dJ c=a++(dJ c++oZ a []);unfold oZ;rw[jL]
 |d::q,c=>by
  have ih:=F6 a q d;show(a++dJ c)++(b1 44++gI (b1 44) ((d::q).map (fun x=>a++dJ x)))=_;rw[ih];conv=>rhs;unfold oZ
  simp only[ByteArray.append_assoc]
theorem yV(a:ByteArray)(ss:fC):gI (b1 44) (ss.map (fun x=>a++dJ x))=gU a ss:=by
 cases ss with
 |nil=>rfl
 |cons c r=>rw[F6];unfold gU;rfl
theorem wI(hd:ig)(a:ByteArray):∀(ss:fC),uF ss->total (ss.map (fun x=>a++dJ x))+ss.length<=zL ss+ss.length*a.size
 |[],_=>by simp[total]
 |c::r,hq=>by simp only[uF]at hq;have:=wI hd a r hq.2;have:=pR hd c hq.1;unfold zL;simp only[List.map_cons,total,List.length_cons,ByteArray.size_append,Nat.add_mul];omega
theorem NP(f B:Nat)(root:ByteArray)(ss:fC)(v:Value)(w:World)(h:SG (KN (dF f)) 1 (fun b=>b<B) w v ss)(hB:B<=w.heap.size)(hI:eX w)(hq:uF ss)(hz:zL ss<=274877906944)(hd:ig)(hr:allB iM root=true)(afG:root.size<=12):
  Calls prog 104 #[.string root,v] w fun e w'=>e=.returned (.string (gU (jl root) ss))/\Below w.heap.size w w':=by
 have hl:=h.len;have HS:Hid (SG (KN (dF f)) 1 (fun b=>b<B) w v ss):=h;have NQ:Hid (eX w):=hI;have HQ:Hid (uF ss):=hq;have hF:Hid (Fair (kU (dF f))):=kU.fair (dF.fair f);obtain⟨a,cap,rfl⟩:=h.form;obtain⟨ah,Hah⟩:∃ah,Hid (jl root=ah):=⟨_,hid rfl⟩;have aeO:ah.size<=14:=by
  rw[<-Hah.o];unfold jl;split
  .show 0<=14;omega
  .rw[ByteArray.size_append,ByteArray.size_append];show 1+(_+1)<=14;omega
 have yj:Hid (gI (b1 44) (ss.map (fun x=>ah++dJ x))=gU ah ss):=yV ah ss;have htot:=wI hd ah ss hq;have hml:ss.length*ah.size<=2097152*14:=Nat.mul_le_mul hl aeO;have hnm:bC root=root:=Ux hr;rw[Hah.o];clear h hI hq hr;obtain⟨iS,uh⟩:=jV;have HI:Hid (prog.info? 9=some iS/\iS.zero=some (.string ⟨#[]⟩)/\iS.size=1/\iS.bytes=16):=uh;clear uh;go_in;go_upto_if 10 with fail;go_cut [5] (fun s5 wx=>s5=.string ah/\Below w.heap.size w wx);case first=>
  by_cases he:root.toList=[]
  .have hn:root=aA:=by
    have:=aH root [];rw[he]at this;exact of_decide_eq_true this.symm
   have HA:Hid (ah=⟨#[]⟩):=by show _=_;rw[<-Hah.o];unfold jl;rw[if_pos hn];rfl
   clear hn;have hie:root.toList.isEmpty=true:=by rw[he];rfl
   rw[hie,Bool.not_true];go_wp2_with fail;go_meet
   exact⟨by rw[HA.o],Below.refl _ _⟩
  .have hn:¬root=aA:=fun e=>he (by rw[e,fP];rfl);have hie:root.toList.isEmpty=false:=by cases hq:root.toList with|nil=>exact absurd hq he|cons _ _=>rfl
   have HA:Hid (aB [⟨#[46]⟩,root,⟨#[32]⟩]=ah):=by show _=_;rw[<-Hah.o];unfold jl;rw[if_neg hn];simp[aB,b1]
   clear hn;have Gy:=oC root w oo;rw[hnm]at Gy;have HN:Hid (Calls prog 176 #[.string root] w fun e w'=>e=.returned (.string root)/\Below w.heap.size w w'):=Gy;clear Gy hnm;rw[hie,Bool.not_false];go_wp2_with fail;refine HN.o.mono ?_;rintro e w1 ⟨rfl,hb1⟩;have B1:Hid (Below w.heap.size w w1):=hb1;have hw1:=hb1.size;clear hb1;go_wp2_with fail;refine(eG [⟨#[46]⟩,root,⟨#[32]⟩] w1.heap.size _ _ (row3 w1 ⟨#[46]⟩ root ⟨#[32]⟩) (by simp) (by show 1+(root.size+(1+0))<=_;omega)).mono ?_;rw[HA.o];rintro e w2 ⟨rfl,hb2⟩;have B2:Hid (Below w.heap.size w w2):=(B1.o.alloc hw1 _).trans (hb2.mono (by simp;omega));clear hb2;go_wp2_with fail;go_meet
   exact⟨rfl,B2.o⟩
 case rest=>
  obtain⟨rfl,hbc⟩:=hcut;have BC:Hid (Below w.heap.size w wc):=hbc;clear hbc hnm;go_wp2_with fail;go_loopg[6,17] ss.length (fun gg v6 v17 wr=>∃(u:Value) (i:Nat),u=v6/\v17=.int .i64 (i:Int)/\i+gg=ss.length/\Aside (wr.ownsRow w.heap.size 9 1 u i (((ss.take i).map (fun x=>ah++dJ x)).map Value.string)/\Below w.heap.size w wr));case atStart=>exact⟨_,0,rfl,rfl,oo,World.ownsRow_nil _ _ _ _,BC.o⟩
  case round=>
   obtain⟨u,i,rfl,rfl,hi,hA⟩:=hrel;have O1:Hid (wr.ownsRow w.heap.size 9 1 u i (((ss.take i).map (fun x=>ah++dJ x)).map Value.string)):=hA.o.1;have B1:Hid (Below w.heap.size w wr):=hA.o.2;clear hA;have hsr:=B1.o.size;by_cases hlt:i<ss.length
   .have h1:(i:Int)<(ss.length:Int):=oo;obtain⟨g,o,rfl,hL,hcap⟩:=HS.o.here (by rintro rfl;simp at hlt);have hgB:g<B:=(hL.at ss g o i hlt).1;obtain⟨cv,d0,hcv⟩:=hL.cpx (i:=i) hlt;rw[<-B1.o.cell (p:=⟨g,_,none⟩) (show g<w.heap.size by omega)]at d0;have HT:Hid (ss.take (i+1)=ss.take i++[ss[i]]):=List.take_succ_eq_append_getElem hlt;have hqc:=Qb ss i HQ.o hlt;have hzc:=Qq ss i hlt;obtain⟨cx,hcx⟩:∃c,c=ss[i]:=⟨_,rfl⟩;rw[<-hcx]at hcv HT hqc hzc;obtain⟨ca,cc,rfl⟩:=hcv.form;have hxs:=pR hd cx hqc;have HW:Hid (Calls prog 177 #[.slice ca cx.length cc] wr fun e w'=>e=.returned (.string (dJ cx))/\Below wr.heap.size wr w'):=
     ab3 f B cx _ wr (hcv.below hF.o B1.o hB) oo (NQ.o.below B1.o nl) hqc oo hd
    clear hL hcx hcv hqc;go_wp2_with fail;refine HW.o.mono ?_;obtain⟨x,Hx⟩:∃x,Hid (dJ cx=x):=⟨_,hid rfl⟩;rw[Hx.o]at hxs;rw[Hx.o];rintro e w2 ⟨rfl,hb2⟩;have B2:Hid (Below w.heap.size w w2):=B1.o.trans (hb2.mono hsr);have O2:Hid (w2.ownsRow w.heap.size 9 1 u i (((ss.take i).map (fun x=>ah++dJ x)).map Value.string)):=aX O1.o fun r hr=>hb2.block r (O1.o.lt r hr).2;have hs2:=B2.o.size;clear hb2 HW d0;go_wp2_with fail;refine(eG [ah,x] w2.heap.size _ _ (Zf w2 ah x) (by simp) (by show ah.size+(x.size+0)<=_;omega)).mono ?_;obtain⟨y,Hy⟩:∃y,Hid (aB [ah,x]=y):=⟨_,hid rfl⟩;have HY:Hid (y=ah++x):=by show _=_;rw[<-Hy.o];simp[aB]
    rw[Hy.o];rintro e w3 ⟨rfl,hb3⟩;have X3:Hid (Below w2.heap.size w2 w3):=(bI w2 _).trans (hb3.mono (by simp));have B3:Hid (Below w.heap.size w w3):=B2.o.trans (X3.o.mono hs2);have O3:Hid (w3.ownsRow w.heap.size 9 1 u i (((ss.take i).map (fun x=>ah++dJ x)).map Value.string)):=aX O2.o fun r hr=>X3.o.block r (O2.o.lt r hr).2;have hs3:=B3.o.size;clear hb3;obtain⟨zs,WR⟩:∃zs,Hid ((ss.take i).map (fun x=>ah++dJ x)=zs):=⟨_,hid rfl⟩;rw[WR.o]at O3;have hzl:zs.length=i:=by rw[<-WR.o,List.length_map,List.length_take];omega
    clear O1 O2;go_wp2_with(at_builtin;go_must(refine wpList_append_own _ rfl _ _ 22 rfl w.heap.size 9 iS (.string ⟨#[]⟩) 1 16 Tryz.underlying22 HI.o.1 HI.o.2.1 HI.o.2.2.1 HI.o.2.2.2 rfl oo u i (zs.map Value.string) rfl (O3.o.alloc _) ⟨w3.heap.size,0,none⟩ 1 1 [.string y] rfl rfl (cell_one_new _ _ _) (bf _) (by unfold maxLen;omega) oo (by simp;omega) ?_));intro v4 w4 hown4 bG _;have O4:Hid (w4.ownsRow w.heap.size 9 1 v4 (i+1) (((ss.take (i+1)).map (fun x=>ah++dJ x)).map Value.string)):=by show World.ownsRow _ _ _ _ _ _ _;rw[HT.o,List.map_append,List.map_append,List.map_cons,List.map_nil,Hx.o,<-HY.o,WR.o];exact hown4
    have B4:Hid (Below w.heap.size w w4):=(B3.o.alloc hs3 _).grown bG (by simp;omega) (fun rr hr=>(O3.o.lt rr hr).1);clear hown4 bG;go_wp2_with fail;go_roundg(gk-1);case measure=>omega
    case rel=>exact⟨v4,i+1,rfl,by congr 1,oo,O4.o,B4.o⟩
   .have h1:(ss.length:Int)<=(i:Int):=oo;have hie:i=ss.length:=oo;subst hie;obtain⟨zs,WR⟩:∃zs,Hid (ss.map (fun x=>ah++dJ x)=zs):=⟨_,hid rfl⟩;have hzl:zs.length=ss.length:=by rw[<-WR.o,List.length_map]
    have O5:Hid (wr.ownsRow w.heap.size 9 1 u zs.length (zs.map Value.string)):=by have:=O1.o;rw[List.take_of_length_le nl,WR.o]at this;show World.ownsRow _ _ _ _ _ _ _;rw[hzl];exact this
    rw[WR.o]at htot yj;go_wp2_with fail;refine(Fz (b1 44) zs w.heap.size u _ O5.o oo (by unfold WS;show _+zs.length*1<=_;omega)).mono ?_;rw[yj.o];rintro e w5 ⟨rfl,hb5⟩;have B5:Hid (Below w.heap.size w w5):=B1.o.trans (hb5.mono hsr);clear hb5;go_wp2_with fail;go_ret;exact⟨rfl,B5.o⟩
end Go.Proofs.YtlliliddljkbfaaGreatDoor
