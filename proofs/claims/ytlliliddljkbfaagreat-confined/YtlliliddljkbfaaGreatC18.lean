import Derived.Test.YtlliliddljkbfaaGreatC15
import Derived.Test.YtlliliddljkbfaaGreatC17
set_option maxHeartbeats 64000000
set_option maxRecDepth 100000
namespace Go.Proofs.YtlliliddljkbfaaGreat
open Go.Proofs.Tryz (prog)
open Go.RowKit Sp
structure Lit(w:WD):Prop where
 glob:∃m,w.cell? ⟨0,0,none⟩=some (.int .i64 m)
 pos:0<w.heap.size
theorem Lit.below{w w':WD}(h:Lit w)(hb:Below w.heap.size w w'):Lit w':=by obtain⟨m,hm⟩:=h.glob;exact⟨⟨m,by rw[<-hm];exact World.cell?_of_block (w:=w) (hb.block 0 h.pos)⟩,Nat.lt_of_lt_of_le h.pos hb.size⟩
theorem FM(s:BY)(w:WD)(hs:s.size<=600)(hl:Lit w):
  Calls prog 40 #[.string s] w fun e w'=>(∃u,e=.returned (.tuple #[u,.bool (decide (depth (bH s)<=8))])/\(depth (bH s)<=8->SG dB 4 (fun b=>b<w'.heap.size) w' u (rules true (bH s)))/\(¬depth (bH s)<=8->u=.slice none 0 0))/\Below w.heap.size w w':=by
 have HL:=hid hl;have hcs:=oZ s;have htl:=WM (Sp.clean s);have HTO:Hid (∀t∈toks (Sp.clean s),dI t):=Oz oo;obtain⟨nd,Hnd⟩:=Nm (bH s);have Hn2:Hid (nodes (toks (Sp.clean s))=nd):=Hnd.o;rw[Hnd.o];clear hl;go_in;go_wp2_with fail;refine(Df s w hs HL.o.glob HL.o.pos).mono ?_;rintro e w1 ⟨c,cap,n,rfl,hcw,hch,hb1⟩;have HC:=hid hch;have B1:=hid hb1;have hs1:=hb1.size;clear hch hb1;go_wp2_with fail;refine(adn (toks (Sp.clean s)) c cap n 0 w1 HC.o oo HTO.o).mono ?_;rw[Hn2.o];rintro e w2 ⟨v2,rfl,hS2,hT2⟩;obtain⟨va,vc,rfl⟩:=hS2.form;have B2:Hid (Below w.heap.size w w2):=Turn.over B1.o hT2 hcw;have hs2:=B2.o.size
 have HS2:Hid (Sl (fun b=>b<w2.heap.size) w2 (.slice va nd.length vc) nd):=hS2.keep (fun _ h=>h.2) (fun _ _=>rfl);clear hS2 hT2 HC;by_cases hd:depth nd<=8
 .have hd2:¬(8:Int)<(depth nd:Int):=oo;have hd3:(depth nd:Int)<=8:=oo;have HD:Hid (depth nd<=8):=hd;clear hd;go_wp2_with fail;refine(Rl w2.heap.size nd _ w2 HS2.o nl).mono ?_;rintro e w3 ⟨u3,rfl,WW,hb3⟩;obtain⟨ra,rc,rfl⟩:=WW.form;have Rn:=hid WW;have B3:=hid (B2.o.trans (hb3.mono hs2));clear WW hb3;go_wp2_with fail;go_ret2
  exact⟨⟨_,by rw[decide_eq_true HD.o];rfl,fun _=>Rn.o,fun h=>absurd HD.o h⟩,B3.o⟩
 .have hd2:(8:Int)<(depth nd:Int):=oo;have HD:Hid (¬depth nd<=8):=hd;clear hd;go_wp2_with fail;go_ret2
  exact⟨⟨_,by rw[decide_eq_false HD.o];rfl,fun h=>absurd h HD.o,fun _=>rfl⟩,B2.o⟩
theorem WX[bV]{s:BY}{p:aF}(h:qp p=false):dR s p=(aA,5):=by unfold dR;rw[if_pos h]
theorem SE[bV]{s:BY}{p:aF}(h:qp p=true)(h1:600<s.size):dR s p=(aA,1):=by unfold dR;rw[if_neg (by rw[h];simp),if_pos h1]
theorem SH[bV]{s:BY}{p:aF}(h:qp p=true)(h1:¬600<s.size)(h2:¬depth (bH s)<=8):dR s p=(aA,2):=by unfold dR;rw[if_neg (by rw[h];simp),if_neg h1,if_pos oo]
theorem SI[bV]{s:BY}{p:aF}(h:qp p=true)(h1:¬600<s.size)(h2:depth (bH s)<=8):dR s p=(tY p (depth (bH s)) true (bH s),0):=by unfold dR;rw[if_neg (by rw[h];simp),if_neg h1,if_neg oo]
theorem YT[bV](B:Nat)(s:BY)(p:aF)(pv fv av:Av)(w:WD)(hP:jK B w p pv fv av)(hI:jD w)(hds:jm)(hl:Lit w)(hr:p.root.size<=4194304)(hs:s.size<4611686018427387904):
  Calls prog 18 #[.string s,dF p pv fv av] w fun e w'=>e=.returned (.tuple #[.string (dR s p).1,.int .i64 (dR s p).2])/\Below w.heap.size w w':=by
 have hB:=hP.lt;obtain⟨pa,pc,rfl⟩:=hP.props.form;obtain⟨fa,fc,rfl⟩:=hP.aJ.form;obtain⟨aa,ac,rfl⟩:=hP.ats.form;have HL:=hid hl;have HII:=hid hI;have HDS:Hid jm:=hds;have HPM:=hid hP;obtain⟨B0,Q0⟩:=Qa.nb p pa fa aa pc fc ac w;clear hP hl hI hds;unfold dF;go_in;go_upto_region 1 with fail
 have hsz0:=B0.o.size;generalize w.alloc (.cells #[.string p.root,.slice pa p.props.length pc,.slice fa p.aJ.length fc,.slice aa p.ats.length ac,.bool p.aU,.bool p.texts] 41)=w0 at *;obtain⟨q0,q1,q2,q3,q4,q5⟩:=Q0.o.cs;have HC:=agu B p _ _ _ w0 (HPM.o.below B0.o hB) hr;unfold dF at HC;obtain⟨z,Hz⟩:=Nm (qp p);rw[Hz.o]at HC;have HC':Hid (Calls prog 39 #[.agg #[.string p.root,.slice pa p.props.length pc,.slice fa p.aJ.length fc,.slice aa p.ats.length ac,.bool p.aU,.bool p.texts]] w0 fun e w'=>(∃u,e=.returned (.tuple #[u,.bool z])/\(z=true->u=.agg #[.string p.root,.slice pa p.props.length pc,.slice fa p.aJ.length fc,.slice aa p.ats.length ac,.bool p.aU,.bool p.texts])/\(z=false->u=.agg #[.string ⟨#[]⟩,.slice none 0 0,.slice none 0 0,.slice none 0 0,.bool false,.bool false]))/\Below w0.heap.size w0 w'):=HC;clear HC
 go_wp2_with fail;refine HC'.o.mono ?_;rintro e w1 ⟨⟨u,rfl,hu1,hu2⟩,hb1⟩;have B1:=hid (B0.o.trans (hb1.mono hsz0));have hs1:=B1.o.size;clear hb1 HC' q0 q1 q2 q3 q4 q5;cases z
 .have hu:=hu2 rfl;subst hu;have HV:Hid (dR s p=(aA,5)):=WX Hz.o;clear hu1 hu2;go_wp2_with fail;go_ret2
  rw[HV.o];exact⟨rfl,B1.o.alloc hs1 _⟩
 .have hu:=hu1 rfl;subst hu;clear hu1 hu2;have B2:Hid (Below w.heap.size w (w1.alloc (.cells #[.string p.root,.slice pa p.props.length pc,.slice fa p.aJ.length fc,.slice aa p.ats.length ac,.bool p.aU,.bool p.texts] 82))):=B1.o.alloc hs1 _;have Q2:Hid (Q6 (w1.alloc (.cells #[.string p.root,.slice pa p.props.length pc,.slice fa p.aJ.length fc,.slice aa p.ats.length ac,.bool p.aU,.bool p.texts] 82)) w1.heap.size (.string p.root) (.slice pa p.props.length pc) (.slice fa p.aJ.length fc) (.slice aa p.ats.length ac) (.bool p.aU) (.bool p.texts)):=Q6.new _ _ _ _ _ _ _;go_upto_region 2 with fail
  generalize w1.alloc (.cells #[.string p.root,.slice pa p.props.length pc,.slice fa p.aJ.length fc,.slice aa p.ats.length ac,.bool p.aU,.bool p.texts] 82)=w2 at *;obtain⟨gt,mV⟩:=Nm w1.heap.size;rw[mV.o]at Q2 hs1⊢;have hs2:=B2.o.size;have hlt2:=Q2.o.lt;by_cases h6:600<s.size
  .have h6i:(600:Int)<(s.size:Int):=oo;have HV:Hid (dR s p=(aA,1)):=SE Hz.o h6;clear h6;go_wp2_with fail;go_ret2
   rw[HV.o];exact⟨rfl,B2.o⟩
  .have h6i:¬(600:Int)<(s.size:Int):=oo;have h6j:(s.size:Int)<=600:=oo;have H6:=hid h6;clear h6;have HLW:=HL.o.below B2.o;have HRS:=FM s w2 oo HLW;obtain⟨dd,Hdd⟩:=Nm (decide (depth (bH s)<=8));rw[Hdd.o]at HRS;have alB:=hid HRS;clear HRS HLW;go_wp2_with fail;refine alB.o.mono ?_;rintro e w3 ⟨⟨u3,rfl,hu1,hu2⟩,hb3⟩;have B3:=hid (B2.o.trans (hb3.mono hs2));have Q3':Hid (Q6 w3 gt (.string p.root) (.slice pa p.props.length pc) (.slice fa p.aJ.length fc) (.slice aa p.ats.length ac) (.bool p.aU) (.bool p.texts)):=Q2.o.below hb3 hlt2;have hs3:=B3.o.size;clear hb3 alB;cases dd
   .have hd:=of_decide_eq_false Hdd.o;have hu:=hu2 hd;subst hu;have HV:Hid (dR s p=(aA,2)):=SH Hz.o H6.o hd;clear hu1 hu2 hd;go_wp2_with fail;go_ret2
    rw[HV.o];exact⟨rfl,B3.o⟩
   .have hd:=of_decide_eq_true Hdd.o;have hsg:=hu1 hd;obtain⟨ra,rc,rfl⟩:=hsg.form;have Rn:=hid hsg;have HV:Hid (dR s p=(tY p (depth (bH s)) true (bH s),0)):=SI Hz.o H6.o hd;clear hu1 hu2 hd hsg;have hpp:=Hz.o;rw[YM]at hpp;simp only[Bool.and_eq_true,decide_eq_true_eq]at hpp;have hsg:=Di (s:=s) oo;have HB:=Sz p (.slice pa p.props.length pc) (.slice fa p.aJ.length fc) (.slice aa p.ats.length ac) HDS.o hpp.1.1.1.1.1 hpp.1.1.1.1.2 (depth (bH s)) true (bH s) B w HPM.o HII.o hsg.1 nl hsg.2 _ w3 B3.o Rn.o;unfold dF at HB;have HB':=hid HB;clear HB hpp hsg;obtain⟨q0,q1,q2,q3,q4,q5⟩:=Q3'.o.cs;go_wp2_with fail;refine HB'.o.mono ?_;rintro e w4 ⟨rfl,hb4⟩;have B4:=hid (B3.o.trans (hb4.mono hs3));clear hb4 HB';go_wp2_with fail;go_ret2
    rw[HV.o];exact⟨rfl,B4.o⟩
end Go.Proofs.YtlliliddljkbfaaGreat
namespace Go.Proofs.YtlliliddljkbfaaGreat.Sp
def At(s:BY)(i:Nat)(l:List UInt8):Prop:=i<=s.size/\s.data.toList.drop i=l
def jy:List UInt8->Int
 |[]=>-1
 |c::_=>(c.toNat:Int)
theorem At.size{s:BY}{i:Nat}{l:List UInt8}(h:At s i l):i+l.length=s.size:=by have h1:=congrArg List.length h.2;have h2:=h.1;have h3:s.data.toList.length=s.size:=rfl;rw[List.length_drop,h3]at h1;omega
theorem At.zero(s:BY):At s 0 s.data.toList:=⟨Nat.zero_le _,rfl⟩
theorem At.app{s:BY}{i:Nat}{a l:List UInt8}(h:At s i (a++l)):At s (i+a.length) l:=by have h1:=h.size;refine⟨by simp at h1;omega,?_⟩;rw[<-List.drop_drop,h.2];simp
theorem At.tl{s:BY}{i:Nat}{c:UInt8}{l:List UInt8}(h:At s i (c::l)):At s (i+1) l:=At.app (a:=[c]) h
theorem At.hd{s:BY}{i:Nat}{l:List UInt8}(h:At s i l):pk s i=jy l:=by
 have h1:=h.size;cases l with
 |nil=>exact oK (by simp at h1;omega)
 |cons c r=>
  have hi:i<s.size:=by simp at h1;omega
  rw[zK hi];have h2:s.data.toList[i]?=some c:=by have:=congrArg (fun x=>x[0]?) h.2;simpa using this
  have h3:s.data.toList[i]'hi=c:=(List.getElem?_eq_some_iff.1 h2).2;show((s.data[i]'hi).toNat:Int)=_;rw[<-Array.getElem_toList];rw[h3];rfl
theorem At.lt{s:BY}{i:Nat}{c:UInt8}{l:List UInt8}(h:At s i (c::l)):i<s.size:=by have:=h.size;simp at this;omega
theorem At.one{s:BY}{i:Nat}{c:UInt8}{l:List UInt8}(h:At s i (c::l)):one s i=b1 c:=by
 have h1:=h.size;unfold Sp.one b1;apply ByteArray.ext
 rw[ByteArray.data_extract];apply Array.toList_inj.1
 rw[Array.toList_extract,List.extract_eq_take_drop,h.2];simp
theorem kV(a b:BY):(a++b).data.toList=a.data.toList++b.data.toList:=by simp
def WY(c:UInt8):List UInt8:=[92,hexD (c.toNat/16),hexD (c.toNat%16),32]
def ny(ok:Nat->UInt8->Bool):Nat->List UInt8->List UInt8
 |_,[]=>[]
 |i,c::r=>(if ok i c=true then [c] else WY c)++ny ok (i+1) r
theorem OQ(ok:Nat->UInt8->Bool):∀(l:List UInt8) (i:Nat),(BP ok i l).data.toList=ny ok i l
 |[],_=>rfl
 |c::r,i=>by unfold BP ny;rw[kV,OQ ok r (i+1)];split<;>rfl
theorem rO(ok:Nat->UInt8->Bool):∀(l:List UInt8) (i:Nat),l.length<=(ny ok i l).length
 |[],_=>Nat.le_refl _
 |c::r,i=>by have:=rO ok r (i+1);unfold ny;split<;>simp[WY]<;>omega
theorem adp:∀n,n<16->xk ((hexD n).toNat:Int)=(n:Int):=by decide
theorem YU:∀n,n<16->((hexD n).toNat:Int)≠10:=by decide
def zq(c:UInt8):UInt8:=if c.toNat=0 then 63 else c
theorem Gz{s:BY}{i:Nat}{c:UInt8}{r:List UInt8}(h:At s i (WY c++r)):esc s i=(b1 (zq c),i+4)/\kY s i=true:=by
 have hc:=c.toNat_lt;have h0:At s i (92::hexD (c.toNat/16)::hexD (c.toNat%16)::32::r):=h;have h1:=h0.tl;have h2:=h1.tl;have h3:=h2.tl;have e0:pk s i=92:=h0.hd;have e1:pk s (i+1)=((hexD (c.toNat/16)).toNat:Int):=h1.hd;have e2:pk s (i+1+1)=((hexD (c.toNat%16)).toNat:Int):=h2.hd;have e3:pk s (i+1+1+1)=32:=h3.hd;have d1:=adp (c.toNat/16) AF;have d2:=adp (c.toNat%16) AF;have hF:tJ s 6 (i+1) 0=(c.toNat,i+1+1+1):=by
  unfold tJ;rw[e1,d1,if_pos (by omega)];unfold tJ;rw[e2,d2,if_pos (by omega)];unfold tJ;rw[e3,if_neg (by decide)];congr 1
  simp;omega
 refine⟨?_,?_⟩
 .unfold esc;simp only[hF];rw[if_neg (by omega),e3,show aO 32=true by decide];refine Prod.ext ?_ rfl;show(if 1<=c.toNat/\c.toNat<=255 then E8 c.toNat else Ec)=b1 (zq c);unfold zq;by_cases hz:c.toNat=0
  .rw[if_neg (by omega),if_pos hz];rfl
  .rw[if_pos (by omega),if_neg hz];unfold E8 b1;rw[show UInt8.ofNat c.toNat=c from UInt8.ofNat_toNat]
 .unfold kY;rw[e0,e1];have:=YU (c.toNat/16) AF;simp[this]
def uG(r:List UInt8):Prop:=lX (jy r)=false/\jy r≠92
theorem OT(acc:BY)(c:UInt8)(l:List UInt8):acc++b1 c++(⟨l.toArray⟩:BY)=acc++⟨(c::l).toArray⟩:=by
 apply ByteArray.ext
 apply Array.toList_inj.1
 simp[b1]
theorem zi{s:BY}(ok:Nat->UInt8->Bool)(hok:∀i c,ok i c=true->lX (c.toNat:Int)=true)(hz:∀i c,ok i c=true->zq c=c){r:List UInt8}(hr:uG r):∀(l:List UInt8) (j f i:Nat) (acc:BY),At s i (ny ok j l++r)->l.length<=f->iK s f i acc=(acc++⟨(l.map zq).toArray⟩,i+(ny ok j l).length)
 |[],j,f,i,acc,h,_=>by
  have e:pk s i=jy r:=At.hd (l:=r) h;have ea:acc++(⟨(([]:List UInt8).map zq).toArray⟩:BY)=acc:=by apply ByteArray.ext;simp
  cases f with
  |zero=>unfold iK ny;rw[ea];rfl
  |succ f=>
   unfold iK;rw[e,hr.1];have:kY s i=false:=by unfold kY;rw[e];simp[hr.2]
   rw[this,ea];rfl
 |c::l,j,f,i,acc,h,hf=>by
  obtain⟨f,rfl⟩:∃g,f=g+1:=⟨f-1,by simp at hf;omega⟩;have hf':l.length<=f:=by simp at hf;omega
  unfold ny at h⊢;by_cases ho:ok j c=true
  .rw[if_pos ho]at h⊢;have h0:At s i (c::(ny ok (j+1) l++r)):=h;have e:pk s i=(c.toNat:Int):=h0.hd;unfold iK;rw[e,hok j c ho,if_pos rfl,h0.one,zi ok hok hz hr l (j+1) f (i+1) _ h0.tl hf'];rw[OT,List.map_cons,hz j c ho];simp;omega
  .rw[if_neg ho]at h⊢;rw[List.append_assoc]at h;have he:=Gz h;have e:pk s i=92:=At.hd (l:=92::_) h;unfold iK;rw[e,if_neg (by decide),he.2,if_pos rfl,he.1,zi ok hok hz hr l (j+1) f (i+4) _ (At.app h) hf'];rw[OT,List.map_cons];simp[WY];omega
theorem SK{c:UInt8}(h:oU c=true):kK (c.toNat:Int)=true:=by unfold oU at h;unfold kK;simp at h⊢;omega
theorem nS{w:BY}{i:Nat}{c:UInt8}(h:dZ w i c=true):kK (c.toNat:Int)=true\/(oV c=true/\i≠0/\¬(i=1/\pk w 0=45))\/(c=45/\w.size≠1):=by
 unfold dZ at h;split at h
 .rename_i hd;right;left;simp at h;exact⟨hd,h.1,fun hh=>h.2.elim (fun a=>a hh.1) (fun a=>a hh.2)⟩
 .split at h
  .rename_i hc;right;right;simp at h;exact⟨hc,h⟩
  .left;simp at h;rcases h with h|h
   .exact SK h
   .subst h;decide
theorem yu{w:BY}{i:Nat}{c:UInt8}(h:dZ w i c=true):lX (c.toNat:Int)=true:=by
 unfold lX;rcases nS h with h|h|h
 .rw[h];rfl
 .have:=h.1;unfold oV at this;unfold fG;simp at this⊢;omega
 .rw[h.1];decide
theorem Nu{w:BY}{i:Nat}{c:UInt8}(h:dZ w i c=true):zq c=c:=by have:=yu h;unfold zq;rw[if_neg];intro hz;rw[hz]at this;revert this;decide
def gZ(w:BY):List UInt8:=ny (dZ w) 0 w.data.toList
theorem pR(w:BY):(dP w).data.toList=gZ w:=OQ _ _ _
def oJ(w:BY):List UInt8:=ny (fun i c=>dZ w i c&&!(i==0&&(c==101||c==69))) 0 w.data.toList
theorem agE(w:BY):(Fe w).data.toList=oJ w:=OQ _ _ _
def vZ(w:BY):BY:=⟨(w.data.toList.map zq).toArray⟩
theorem ED{s w:BY}{i:Nat}{r:List UInt8}(hr:uG r)(h:At s i (gZ w++r)):name s i=(vZ w,i+(gZ w).length):=by
 have hl:=rO (dZ w) w.data.toList 0;have hs:=h.size;unfold name;rw[zi (dZ w) (fun _ _ h=>yu h) (fun _ _ h=>Nu h) hr w.data.toList 0 s.size i _ h (by rw[List.length_append]at hs;unfold gZ at hs;omega)];refine Prod.ext ?_ rfl;apply ByteArray.ext
 simp[vZ]
theorem aaK{s w:BY}{i:Nat}{r:List UInt8}(hr:uG r)(h:At s i (oJ w++r)):name s i=(vZ w,i+(oJ w).length):=by
 have hl:=rO (fun i c=>dZ w i c&&!(i==0&&(c==101||c==69))) w.data.toList 0;have hs:=h.size;unfold name;rw[zi (fun i c=>dZ w i c&&!(i==0&&(c==101||c==69))) (fun _ _ h=>yu (Bool.and_eq_true_iff.1 h).1) (fun _ _ h=>Nu (Bool.and_eq_true_iff.1 h).1) hr w.data.toList 0 s.size i _ h (by rw[List.length_append]at hs;unfold oJ at hs;omega)];refine Prod.ext ?_ rfl;apply ByteArray.ext
 simp[vZ]
theorem YV{s w:BY}{i:Nat}{r:List UInt8}(ok:Nat->UInt8->Bool)(hok:∀j c,ok j c=true->dZ w j c=true)(hw:0<w.size)(h:At s i (ny ok 0 w.data.toList++r)):iG s i=true:=by
 obtain⟨l,hl⟩:∃l,w.data.toList=l:=⟨_,rfl⟩;have hsz:w.size=l.length:=by rw[<-hl];rfl
 have hp0:pk w 0=jy l:=by rw[<-hl];exact(At.zero w).hd
 rw[hl]at h;match l,hsz,hp0,h with
 |[],hsz,_,_=>rw[hsz]at hw;exact absurd hw (Nat.lt_irrefl _)
 |c::l,hsz,hp0,h=>
  unfold ny at h;by_cases ho:ok 0 c=true
  .rw[if_pos ho]at h;have h0:At s i (c::(ny ok 1 l++r)):=h;have e:pk s i=(c.toNat:Int):=h0.hd;rcases nS (hok 0 c ho)with hc|hc|hc
   .unfold iG;rw[e,hc];split
    .rename_i h45;rw[h45]at hc;exact absurd hc (by decide)
    .rfl
   .exact absurd rfl hc.2.1
   .match l,hsz,h0 with
    |[],hsz,_=>exact absurd (by simpa using hsz) hc.2
    |d::l,hsz,h0=>
     have h1:=h0.tl;unfold iG;rw[e,hc.1,if_pos (by decide)];unfold ny at h1;by_cases ho1:ok 1 d=true
     .rw[if_pos ho1]at h1;have e1:pk s (i+1)=(d.toNat:Int):=At.hd (l:=d::_) h1;rw[e1];rcases nS (hok 1 d ho1)with hd|hd|hd
      .rw[hd];rfl
      .refine absurd ⟨rfl,?_⟩ hd.2.2;rw[hp0,hc.1];rfl
      .rw[hd.1];simp
     .rw[if_neg ho1,List.append_assoc]at h1;rw[(Gz h1).2];simp
  .rw[if_neg ho,List.append_assoc]at h;have e:pk s i=92:=At.hd (l:=92::_) h;unfold iG;rw[e,if_neg (by decide),(Gz h).2];simp
theorem Du{s w:BY}{i:Nat}{r:List UInt8}(hw:0<w.size)(h:At s i (gZ w++r)):iG s i=true:=YV _ (fun _ _ h=>h) hw h
theorem adq{s w:BY}{i:Nat}{r:List UInt8}(hw:0<w.size)(h:At s i (oJ w++r)):iG s i=true:=YV _ (fun _ _ h=>(Bool.and_eq_true_iff.1 h).1) hw h
def yw(w:BY):List UInt8:=34::(ny (fun _ c=>jO c) 0 w.data.toList++[34])
theorem YW(w:BY):(xG w).data.toList=yw w:=by unfold xG yw;rw[kV,kV,OQ];rfl
theorem aaL{c:UInt8}(h:jO c=true):(c.toNat:Int)≠34/\(c.toNat:Int)≠10/\(c.toNat:Int)≠92/\zq c=c:=by
 unfold jO at h;simp at h;refine⟨?_,by omega,?_,?_⟩
 .intro e;exact h.2.1.1.1 (UInt8.toNat_inj.1 (by simpa using(show c.toNat=34 by omega)))
 .intro e;exact h.2.1.1.2 (UInt8.toNat_inj.1 (by simpa using(show c.toNat=92 by omega)))
 .unfold zq;rw[if_neg (by omega)]
theorem Jy{s:BY}{r:List UInt8}:∀(l:List UInt8) (j f i:Nat) (acc:BY),At s i (ny (fun _ c=>jO c) j l++34::r)->l.length<f->lK s 34 f i acc=(Tok.w 2 (acc++⟨(l.map zq).toArray⟩),i+(ny (fun _ c=>jO c) j l).length+1)
 |[],j,f,i,acc,h,hf=>by
  obtain⟨f,rfl⟩:∃g,f=g+1:=⟨f-1,by simp at hf;omega⟩;have h0:At s i (34::r):=h;have e:pk s i=34:=h0.hd;have ea:acc++(⟨(([]:List UInt8).map zq).toArray⟩:BY)=acc:=by apply ByteArray.ext;simp
  unfold lK;rw[if_neg (by have:=h0.lt;omega),if_pos e,ea];rfl
 |c::l,j,f,i,acc,h,hf=>by
  obtain⟨f,rfl⟩:∃g,f=g+1:=⟨f-1,by simp at hf;omega⟩;have hf':l.length<f:=by simp at hf;omega
  unfold ny at h⊢;by_cases ho:jO c=true
  .rw[if_pos ho]at h⊢;have h0:At s i (c::(ny (fun _ c=>jO c) (j+1) l++34::r)):=h;have e:pk s i=(c.toNat:Int):=h0.hd;have hc:=aaL ho;unfold lK;rw[if_neg (by have:=h0.lt;omega),if_neg (by rw[e];exact hc.1),if_neg (by rw[e];exact hc.2.1),if_neg (by rw[e];exact hc.2.2.1),h0.one,Jy l (j+1) f (i+1) _ h0.tl hf'];rw[OT,List.map_cons,hc.2.2.2];refine Prod.ext rfl ?_;simp;omega
  .rw[if_neg ho]at h⊢;rw[List.append_assoc]at h;have h0:At s i (92::hexD (c.toNat/16)::hexD (c.toNat%16)::32::(ny (fun _ c=>jO c) (j+1) l++34::r)):=h;have he:=Gz h;have e:pk s i=92:=h0.hd;have e1:pk s (i+1)=((hexD (c.toNat/16)).toNat:Int):=h0.tl.hd;have hn:=YU (c.toNat/16) (by have:=c.toNat_lt;omega);unfold lK;rw[if_neg (by have:=h0.lt;omega),if_neg (by rw[e];decide),if_neg (by rw[e];decide),if_pos e,if_neg (by have:=h0.tl.lt;omega),if_neg (by rw[e1];exact hn),he.1,Jy l (j+1) f (i+4) _ (At.app h) hf'];rw[OT,List.map_cons];refine Prod.ext rfl ?_;simp[WY];omega
theorem aaM{s w:BY}{i:Nat}{r:List UInt8}(h:At s i (yw w++r)):token s i=(Tok.w 2 (vZ w),i+(yw w).length):=by
 have h0:At s i (34::(ny (fun _ c=>jO c) 0 w.data.toList++34::r)):=by unfold yw at h;simpa using h
 have e:pk s i=34:=h0.hd;have hl:=rO (fun _ c=>jO c) w.data.toList 0;have hs:=h0.size;unfold token;rw[e,if_neg (by decide),if_pos (by decide)];unfold txt;rw[Jy w.data.toList 0 s.size (i+1) _ h0.tl (by simp at hs;omega)];refine Prod.ext ?_ ?_
 .show Tok.w 2 _=Tok.w 2 _;rw[show ByteArray.empty++(⟨(w.data.toList.map zq).toArray⟩:BY)=vZ w by apply ByteArray.ext;simp[vZ]]
 .simp[yw];omega
section
theorem EF(s:BY):∀f a,s.size<=a+f->(∀x,a<=x->x<wU s f a->fG (pk s x)=true)/\fG (pk s (wU s f a))=false
 |0,a,h=>⟨fun x h1 h2=>by unfold wU at h2;omega,by unfold wU;rw[oK (by omega)];rfl⟩
 |f+1,a,h=>by
  unfold wU;by_cases hd:fG (pk s a)=true
  .rw[if_pos hd];have ih:=EF s f (a+1) AF;refine⟨fun x h1 h2=>?_,ih.2⟩;by_cases e:x=a
   .rw[e];exact hd
   .exact ih.1 x AF h2
  .rw[if_neg hd];exact⟨fun x h1 h2=>by omega,by simpa using hd⟩
theorem Dv{s:BY}{a x:Nat}(h1:a<=x)(h2:x<mW s a):fG (pk s x)=true:=(EF s s.size a AF).1 x h1 h2
theorem YX(s:BY)(a:Nat):fG (pk s (mW s a))=false:=(EF s s.size a AF).2
theorem SL{s:BY}{a b:Nat}(hab:a<=b)(h1:∀x,a<=x->x<b->fG (pk s x)=true)(h2:fG (pk s b)=false):mW s a=b:=by
 have g:=xw s a;rcases Nat.lt_trichotomy (mW s a) b with h|h|h
 .have:=h1 _ g h;rw[YX]at this;cases this
 .exact h
 .have:=Dv hab h;rw[h2]at this;cases this
def nT(c:Int):Prop:=fG c=false/\c≠46/\c≠101/\c≠69
section
variable {s t:BY} {i j n:Nat} (ha : ∀ d,d<n->pk t (j+d)=pk s (i+d)) (hst:nT (pk t (j+n)))
include ha hst
theorem EH{d e:Nat}(hd:mW s (i+d)=i+e)(he:e<=n):mW t (j+d)=j+e:=by
 have g:=xw s (i+d);refine SL AF (fun x h1 h2=>?_) ?_
 .have:=Dv (s:=s) (a:=i+d) (x:=i+(x-j)) AF AF;rw[show x=j+(x-j) by omega,ha _ (by omega)];exact this
 .by_cases h:e<n
  .rw[ha e h,<-hd];exact YX s _
  .rw[show e=n by omega];exact hst.1
theorem aaN(hb:iO s i=true)(hn:bT s i=i+n):iO t j=true/\bT t j=j+n:=by
 obtain⟨σ,hσ⟩:∃σ,mX s i=i+σ:=⟨mX s i-i,by have:=Ef s i;omega⟩;have hσ1:σ<=1:=by have:=afI s i;omega
 obtain⟨e1,h1⟩:∃e,mW s (i+σ)=i+e:=⟨mW s (i+σ)-i,by have:=xw s (i+σ);omega⟩;obtain⟨e2,h2⟩:∃e,jL s (i+e1)=i+e:=⟨jL s (i+e1)-i,by have:=Bz s (i+e1);omega⟩;have g1:=xw s (i+σ);have g2:=Bz s (i+e1);have hn':iq s (i+e2)=i+n:=by have:=hn;unfold bT at this;rw[hσ,h1,h2]at this;exact this
 have g3:=Oj s (i+e2);have hlt:=yY hb;have h0:pk t j=pk s i:=by have:=ha 0 AF;simpa using this
 have hσt:mX t j=j+σ:=by
  unfold mX at hσ⊢;rw[h0];split<;>rename_i hs
  .rw[if_pos hs]at hσ;omega
  .rw[if_neg hs]at hσ;omega
 have k1:mW t (j+σ)=j+e1:=EH ha hst h1 AF;have k2:jL t (j+e1)=j+e2:=by
  unfold jL at h2⊢;by_cases hf:pk s (i+e1)=46/\fG (pk s (i+e1+1))=true
  .rw[if_pos hf]at h2;have g4:=GY hf.2;rw[ha e1 (by omega),Nat.add_assoc,ha (e1+1) (by omega),<-Nat.add_assoc,if_pos hf];exact EH ha hst (d:=e1+1) (by rw[<-Nat.add_assoc];exact h2) AF
  .rw[if_neg hf]at h2;have e:e1=e2:=by omega
   rw[if_neg,e];intro hh;by_cases h:e1<n
   .rw[ha e1 h]at hh;unfold iq at hn';split at hn'
    .rename_i hx;rw[<-e,hh.1]at hx;omega
    .omega
   .rw[show e1=n by omega]at hh;exact hst.2.1 hh.1
 have k3:iq t (j+e2)=j+n:=by
  unfold iq at hn' ⊢;by_cases hx:pk s (i+e2)=101\/pk s (i+e2)=69
  .rw[if_pos hx]at hn';by_cases hy:fG (pk s (mX s (i+e2+1)))=true
   .rw[if_pos hy]at hn';have g4:=GY hy;obtain⟨e3,h3⟩:∃e,mX s (i+e2+1)=i+e:=⟨mX s (i+e2+1)-i,by have:=Ef s (i+e2+1);omega⟩;have g5:=Ef s (i+e2+1);have q1:pk t (j+e2)=pk s (i+e2):=ha e2 AF;have q2:pk t (j+e2+1)=pk s (i+e2+1):=by rw[Nat.add_assoc,Nat.add_assoc];exact ha (e2+1) AF
    have q3:mX t (j+e2+1)=j+e3:=by
     unfold mX at h3⊢;rw[q2];split<;>rename_i hs
     .rw[if_pos hs]at h3;omega
     .rw[if_neg hs]at h3;omega
    rw[h3]at hy hn' g4;rw[q1,if_pos hx,q3,ha e3 (by omega),if_pos hy];exact EH ha hst hn' (Nat.le_refl _)
   .rw[if_neg hy]at hn';have e:e2=n:=by omega
    rw[e,if_neg];exact fun h=>h.elim hst.2.2.1 hst.2.2.2
  .rw[if_neg hx]at hn';have e:e2=n:=by omega
   rw[e,if_neg];exact fun h=>h.elim hst.2.2.1 hst.2.2.2
 refine⟨?_,?_⟩
 .unfold iO at hb⊢;rw[hσ]at hb;rw[hσt];by_cases hd:fG (pk s (i+σ))=true
  .have:=GY hd;rw[ha σ (by omega),hd];rfl
  .have hd':fG (pk s (i+σ))=false:=by simpa using hd
   rw[hd']at hb;simp only[Bool.false_or,Bool.and_eq_true,beq_iff_eq]at hb;have hs:=Qm hd';have e:e1=σ:=by omega
   have hf:jL s (i+e1)=mW s (i+e1+1):=by unfold jL;rw[if_pos (by rw[e];exact hb)]
   have:=GY (s:=s) (i:=i+e1+1) (by rw[e];exact hb.2);rw[ha σ (by omega),Nat.add_assoc,ha (σ+1) (by omega),<-Nat.add_assoc,hb.1,hb.2];simp
 .unfold bT;rw[hσt,k1,k2,k3]
end
def LX(x:BY):Prop:=∀(t:BY) (j:Nat) (r:List UInt8),At t j (x.data.toList++r)->nT (jy r)->iO t j=true/\bT t j=j+x.size
theorem At.WZ{s t:BY}{i k j:Nat}{r:List UInt8}(hk:k<=s.size)(h:At t j ((s.extract i k).data.toList++r)):∀d,d<k-i->pk t (j+d)=pk s (i+d):=by
 intro d hd;have hsz:=h.size;have hl:(s.extract i k).data.toList.length=k-i:=by
  have:(s.extract i k).size=k-i:=by rw[ByteArray.size_extract];omega
  exact this
 have hlt:j+d<t.size:=by rw[List.length_append,hl]at hsz;omega
 rw[zK hlt,zK (show i+d<s.size by omega)];have h1:t.data.toList[j+d]?=s.data.toList[i+d]?:=by have e:=congrArg (fun x=>x[d]?) h.2;simp only[List.getElem?_drop]at e;rw[e,List.getElem?_append_left (by omega),ByteArray.data_extract,Array.toList_extract,List.extract_eq_take_drop,List.getElem?_take,if_pos (by omega),List.getElem?_drop]
 have h2:t.data[j+d]'hlt=s.data[i+d]'(show i+d<s.size by omega):=by rw[Array.getElem?_toList,Array.getElem?_toList]at h1;rw[Array.getElem?_eq_getElem hlt,Array.getElem?_eq_getElem (show i+d<s.data.size by have:s.data.size=s.size:=rfl;omega)]at h1;exact Option.some.inj h1
 show((t.data[j+d]'hlt).toNat:Int)=_;rw[h2];rfl
theorem adr{s:BY}{i:Nat}(hi:i<=s.size)(hb:iO s i=true):LX (s.extract i (bT s i)):=by
 intro t j r h hst;have hk:=yX hi;have hg:=yY hb;have hsz:(s.extract i (bT s i)).size=bT s i-i:=by rw[ByteArray.size_extract];omega
 have hr:At t (j+(s.extract i (bT s i)).data.toList.length) r:=h.app;have hl:(s.extract i (bT s i)).data.toList.length=bT s i-i:=hsz;rw[hl]at hr;have:=aaN (n:=bT s i-i) (At.WZ hk h) (by rw[hr.hd];exact hst) hb AF;rw[hsz];exact this
end
inductive Pc where
 |blank
 |text (w:BY)
 |hash (w:BY)
 |num (w:BY)
 |pct (w:BY)
 |dim (w u:BY)
 |at_ (w:BY)
 |ident (w:BY)
 |func (w:BY)
 |sign (c:UInt8)
 |com
def Pc.bytes:Pc->List UInt8
 |.blank=>[32]
 |.text w=>yw w
 |.hash w=>35::gZ w
 |.num w=>w.data.toList
 |.pct w=>w.data.toList++[37]
 |.dim w u=>w.data.toList++oJ u
 |.at_ w=>64::gZ w
 |.ident w=>gZ w
 |.func w=>gZ w++[40]
 |.sign c=>[c]
 |.com=>[47,42,42,47]
def Pc.tok:Pc->Option Tok
 |.blank=>some (Tok.k 1)
 |.text w=>some (Tok.w 2 (vZ w))
 |.hash w=>some (Tok.w 4 (vZ w))
 |.num w=>some (Tok.w 5 w)
 |.pct w=>some (Tok.w 6 w)
 |.dim w u=>some ⟨7,w,vZ u⟩
 |.at_ w=>some (Tok.w 10 (vZ w))
 |.ident w=>some (Tok.w 14 (vZ w))
 |.func w=>some (Tok.w 11 (vZ w))
 |.sign c=>some (Tok.w 15 (b1 c))
 |.com=>none
def lT:List UInt8:=[33,36,37,40,41,42,43,44,45,46,47,58,59,61,62,91,93,94,123,125,126]
def Pc.ok:Pc->Prop
 |.hash w=>0<w.size
 |.num w=>LX w
 |.pct w=>LX w
 |.dim w u=>LX w/\0<u.size
 |.at_ w=>0<w.size
 |.ident w=>0<w.size
 |.func w=>0<w.size
 |.sign c=>c∈lT
 |_=>True
def Pc.stop:Pc->List UInt8->Prop
 |.blank,r=>aO (jy r)=false
 |.hash _,r=>uG r
 |.num _,r=>nT (jy r)/\jy r≠37/\kK (jy r)=false/\jy r≠45/\jy r≠92
 |.dim _ _,r=>uG r
 |.at_ _,r=>uG r
 |.ident _,r=>uG r/\jy r≠40/\jy r≠62
 |.func w,r=>small (vZ w)=url->∃r',r=34::r'\/r=32::34::r'
 |.sign c,r=>(c=43->fG (jy r)=false/\jy r≠46)/\(c=46->fG (jy r)=false)/\(c=45->fG (jy r)=false/\jy r≠46/\kK (jy r)=false/\jy r≠45/\jy r≠92)/\(c=47->jy r≠42)
 |.com,r=>¬(jy r=47/\jy r.tail=42)
 |_,_=>True
theorem Jz{w:BY}(hw:0<w.size)(r:List UInt8):∃c l,gZ w++r=c::l/\((c.toNat:Int)=92\/(c.toNat:Int)=45\/kK (c.toNat:Int)=true):=by
 obtain⟨l,hl⟩:∃l,w.data.toList=l:=⟨_,rfl⟩;have hsz:w.size=l.length:=by rw[<-hl];rfl
 unfold gZ;rw[hl];match l,hsz with
 |[],hsz=>rw[hsz]at hw;exact absurd hw (Nat.lt_irrefl _)
 |c::l,_=>
  unfold ny;by_cases ho:dZ w 0 c=true
  .rw[if_pos ho];refine⟨c,_,rfl,?_⟩;rcases nS ho with h|h|h
   .exact .inr (.inr h)
   .exact absurd rfl h.2.1
   .rw[h.1];exact .inr (.inl rfl)
  .rw[if_neg ho];exact⟨92,_,rfl,.inl rfl⟩
theorem kW{s:BY}{i:Nat}(h:¬(pk s i=47/\pk s (i+1)=42)):com s i=i:=by
 unfold com;cases s.size with
 |zero=>rfl
 |succ f=>unfold Bv;rw[if_neg h]
theorem YZ{s:BY}{i:Nat}{l:List UInt8}(h:At s i l)(hi:pk s i ≠ -1):pk s (i+1)=jy l.tail:=by
 cases l with
 |nil=>exact absurd h.hd hi
 |cons c r=>exact h.tl.hd
theorem ads{s:BY}{i:Nat}{r:List UInt8}(h:At s i (47::42::42::47::r))(hr:¬(jy r=47/\jy r.tail=42)):com s i=i+4:=by
 have h4:At s (i+4) r:=At.app (a:=[47,42,42,47]) h;have e0:pk s i=47:=h.hd;have e1:pk s (i+1)=42:=h.tl.hd;have e2:pk s (i+2)=42:=h.tl.tl.hd;have e3:pk s (i+2+1)=47:=h.tl.tl.tl.hd;have hl2:=h.tl.tl.lt;have hstar:star s (i+2)=i+2:=by
  unfold star;cases s.size with
  |zero=>rfl
  |succ f=>unfold lY;rw[if_neg (fun hh=>hh.2 ⟨e2,e3⟩)]
 have hno:¬(pk s (i+4)=47/\pk s (i+4+1)=42):=fun hh=>hr ⟨by rw[<-h4.hd];exact hh.1,by rw[<-YZ h4 (by rw[hh.1];decide)];exact hh.2⟩;unfold com;obtain⟨f,hf⟩:∃f,s.size=f+1:=⟨s.size-1,by omega⟩;rw[hf];unfold Bv;rw[if_pos ⟨e0,e1⟩,hstar,if_neg (by omega)];cases f with
 |zero=>rfl
 |succ f=>unfold Bv;rw[if_neg hno]
theorem Y0{s:BY}{i:Nat}{r:List UInt8}(h:At s i (32::r))(hr:aO (jy r)=false):blk s i=i+1:=by
 have e0:pk s i=32:=h.hd;have e1:pk s (i+1)=jy r:=h.tl.hd;have hl:=h.lt;unfold blk;obtain⟨f,hf⟩:∃f,s.size=f+1:=⟨s.size-1,by omega⟩;rw[hf];unfold Ae;rw[e0,if_pos (by decide)];cases f with
 |zero=>rfl
 |succ f=>unfold Ae;rw[e1,hr];rfl
theorem SN{s:BY}{i:Nat}(h:aO (pk s i)=false):blk s i=i:=by
 unfold blk;cases s.size with
 |zero=>rfl
 |succ f=>unfold Ae;rw[h];rfl
theorem GH{c:Int}(h:fG c=true):aO c=false/\dD c=false/\c≠35/\c≠46/\ou c=false:=by have:=kM h;unfold aO dD ou;simp;omega
theorem Nv{s:BY}{i:Nat}(h:iO s i=true):aO (pk s i)=false/\dD (pk s i)=false/\pk s i≠35/\pk s i≠47:=by
 unfold iO mX at h;by_cases hs:ou (pk s i)=true
 .unfold ou at hs;unfold aO dD;simp at hs⊢;omega
 .rw[if_neg hs]at h;simp only[Bool.or_eq_true,Bool.and_eq_true,beq_iff_eq]at h;rcases h with h|h
  .have:=GH h;have:=kM h;refine⟨(GH h).1,?_,?_,?_⟩
   .exact(GH h).2.1
   .omega
   .omega
  .rw[h.1];decide
theorem yx{c:Int}(h:kK c=true\/c=45\/c=92):aO c=false/\dD c=false/\c≠35/\c≠64/\c≠60/\c≠46/\c≠43/\c≠47/\fG c=false:=by unfold kK at h;unfold aO dD fG;simp at h⊢;omega
theorem At.at{s:BY}{i:Nat}{a r:List UInt8}(h:At s i (a++r)){d:Nat}(hd:d<a.length):pk s (i+d)=((a[d]).toNat:Int):=by
 have h1:a=a.take d++a[d]::a.drop (d+1):=by rw[<-List.drop_eq_getElem_cons hd,List.take_append_drop]
 have h2:At s i (a.take d++(a[d]::a.drop (d+1)++r)):=by rw[<-List.append_assoc,<-h1];exact h
 have h3:=h2.app;rw[List.length_take,Nat.min_eq_left (by omega)]at h3;exact h3.hd
def kH(c:UInt8):Prop:=32<=c.toNat/\c.toNat<=126/\c.toNat≠60/\c.toNat≠62
theorem Nw:∀n,n<16->32<=(hexD n).toNat/\(hexD n).toNat<=126/\(hexD n).toNat≠60/\(hexD n).toNat≠62:=by decide
theorem aaO(c:UInt8):∀b∈WY c,kH b:=by
 have hc:=c.toNat_lt;intro b hb;unfold WY at hb;simp only[List.mem_cons,List.not_mem_nil,or_false]at hb;rcases hb with rfl|rfl|rfl|rfl
 .unfold kH;decide
 .exact Nw _ AF
 .exact Nw _ AF
 .unfold kH;decide
theorem zk(ok:Nat->UInt8->Bool)(hok:∀i c,ok i c=true->kH c):∀(l:List UInt8) (j:Nat),∀b∈ny ok j l,kH b
 |[],_,b,hb=>by simp[ny]at hb
 |c::l,j,b,hb=>by
  unfold ny at hb;rcases List.mem_append.1 hb with hb|hb
  .split at hb
   .rename_i ho;rw[List.mem_singleton.1 hb];exact hok j c ho
   .exact aaO c b hb
  .exact zk ok hok l (j+1) b hb
theorem FN{w:BY}{i:Nat}{c:UInt8}(h:dZ w i c=true):kH c:=by
 unfold dZ at h;unfold kH;split at h
 .rename_i hd;unfold oV at hd;simp at hd;omega
 .split at h
  .rename_i hc;rw[hc];decide
  .unfold oU at h;simp at h;rcases h with h|h
   .omega
   .rw[h];decide
theorem rP(w:BY):∀b∈gZ w,kH b:=zk _ (fun _ _ h=>FN h) _ _
theorem Xa(w:BY):∀b∈oJ w,kH b:=zk _ (fun _ _ h=>FN (Bool.and_eq_true_iff.1 h).1) _ _
theorem Xb(w:BY):∀b∈yw w,kH b:=by
 intro b hb;unfold yw at hb;simp only[List.mem_cons,List.mem_append,List.not_mem_nil,or_false]at hb;rcases hb with rfl|hb|rfl
 .unfold kH;decide
 .refine zk _ (fun _ c h=>?_) _ _ b hb;unfold jO at h;simp at h;refine⟨h.1.1,h.1.2,fun e=>h.2.1.2 (UInt8.toNat_inj.1 (by simpa using e)),fun e=>h.2.2 (UInt8.toNat_inj.1 (by simpa using e))⟩
 .unfold kH;decide
theorem adt{s w:BY}{i:Nat}{r:List UInt8}(hw:0<w.size)(h:At s i (gZ w++r)):iO s i=false:=by
 obtain⟨c,l,hc,hcc⟩:=Jz hw r;have hb:=Du hw h;have e:pk s i=(c.toNat:Int):=by rw[hc]at h;exact h.hd
 have hn:=yx (c:=pk s i) (by rw[e];exact hcc.elim (fun h=>.inr (.inr h)) (fun h=>h.elim (fun h=>.inr (.inl h)) .inl));unfold iO mX;by_cases hs:ou (pk s i)=true
 .rw[if_pos hs];have h45:pk s i=45:=by
   unfold ou at hs;simp at hs;omega
  unfold iG at hb;rw[if_pos h45]at hb;simp only[Bool.or_eq_true,beq_iff_eq]at hb;have hx:kK (pk s (i+1))=true\/pk s (i+1)=45\/pk s (i+1)=92:=by
   rcases hb with (hb|hb)|hb
   .exact .inl hb
   .exact .inr (.inl hb)
   .exact .inr (.inr (abW hb).1)
  have:=yx hx;rw[this.2.2.2.2.2.2.2.2];simp[this.2.2.2.2.2.1]
 .rw[if_neg hs,hn.2.2.2.2.2.2.2.2];simp[hn.2.2.2.2.2.1]
theorem adu{s w:BY}{i:Nat}{r:List UInt8}(hw:0<w.size)(hr:uG r)(h62:jy r≠62)(h:At s i (gZ w++r)):kL s i=false:=by
 have hl:0<(gZ w).length:=Nat.lt_of_lt_of_le hw (rO _ _ _);have hrr:=h.app.hd;have hmem:∀d,(hd:d<(gZ w).length)->pk s (i+d)≠62:=fun d hd e=>by rw[h.at hd]at e;have:=(rP w _ (List.getElem_mem hd)).2.2.2;omega
 cases hq:kL s i with
 |false=>rfl
 |true=>
  exfalso
  unfold kL at hq;simp only[Bool.and_eq_true,beq_iff_eq]at hq;rcases Nat.lt_trichotomy (gZ w).length 2 with hlt|he|hgt
  .have:(gZ w).length=1:=by omega
   rw[this,hq.1.2]at hrr;have h1:=hr.1;rw[<-hrr]at h1;exact absurd h1 (by decide)
  .rw[he,hq.2]at hrr;exact h62 hrr.symm
  .exact hmem 2 hgt hq.2
theorem JA:∀c∈lT,aO (c.toNat:Int)=false/\dD (c.toNat:Int)=false/\(c.toNat:Int)≠35/\(c.toNat:Int)≠60/\(c.toNat:Int)≠64/\kK (c.toNat:Int)=false/\(c.toNat:Int)≠92/\fG (c.toNat:Int)=false:=by decide
theorem aaP{s:BY}{i:Nat}{c:UInt8}{r:List UInt8}(hc:c∈lT)(hs:(Pc.sign c).stop r)(h:At s i (c::r)):token s i=(Tok.w 15 (b1 c),i+1):=by
 have e:pk s i=(c.toNat:Int):=h.hd;have e1:pk s (i+1)=jy r:=h.tl.hd;obtain⟨s1,s2,s3,s4⟩:=hs;obtain⟨a1,a2,a3,a4,a5,a6,a7,a8⟩:=JA c hc;have hnum:iO s i=false:=by
  unfold iO mX;rw[e];by_cases h43:c=43
  .subst h43;rw[if_pos (by decide),e1,(s1 rfl).1];simp[(s1 rfl).2]
  .by_cases h45:c=45
   .subst h45;rw[if_pos (by decide),e1,(s3 rfl).1];simp[(s3 rfl).2.1]
   .have hns:¬ou (c.toNat:Int)=true:=by
     unfold ou;simp;exact⟨fun h=>h43 (UInt8.toNat_inj.1 (by simpa using(show c.toNat=43 by omega))),fun h=>h45 (UInt8.toNat_inj.1 (by simpa using(show c.toNat=45 by omega)))⟩
    rw[if_neg hns,e,a8,e1];by_cases h46:c=46
    .subst h46;rw[s2 rfl];rfl
    .have:(c.toNat:Int)≠46:=fun h=>h46 (UInt8.toNat_inj.1 (by simpa using(show c.toNat=46 by omega)));simp[this]
 have amT:iG s i=false:=by
  unfold iG;rw[e];by_cases h45:c=45
  .subst h45;rw[if_pos (by decide)];unfold kY;rw[e1,(s3 rfl).2.2.1];simp[(s3 rfl).2.2.2.1,(s3 rfl).2.2.2.2]
  .rw[if_neg (fun h=>h45 (UInt8.toNat_inj.1 (by simpa using(show c.toNat=45 by omega)))),a6];unfold kY;rw[e];simp[a7]
 have hs4:kG s i=false:=by unfold kG;rw[e];simp[a4]
 have hs3:kL s i=false:=by
  unfold kL;rw[e,e1];by_cases h45:c=45
  .subst h45;simp[(s3 rfl).2.2.2.1]
  .have:(c.toNat:Int)≠45:=fun h=>h45 (UInt8.toNat_inj.1 (by simpa using(show c.toNat=45 by omega)));simp[this]
 unfold token;rw[e,a1,a2,hnum,hs4,hs3,amT,if_neg (by simp),if_neg (by simp),if_neg (fun h=>a3 h.1),if_neg (by simp),if_neg (by simp),if_neg (by simp),if_neg (fun h=>a5 h.1),if_neg (by simp),h.one]
theorem At.extract{s a:BY}{i:Nat}{r:List UInt8}(h:At s i (a.data.toList++r)):s.extract i (i+a.size)=a:=by
 apply ByteArray.ext
 apply Array.toList_inj.1
 have hl:a.size=a.data.toList.length:=rfl;rw[ByteArray.data_extract,Array.toList_extract,List.extract_eq_take_drop,h.2,hl];simp
theorem JB{s w:BY}{i:Nat}{r:List UInt8}(hw:LX w)(hr:nT (jy r))(h:At s i (w.data.toList++r)):token s i=numeric s i/\bT s i=i+w.size/\s.extract i (bT s i)=w/\At s (i+w.size) r/\com s i=i:=by
 obtain⟨hb,he⟩:=hw s i r h hr;have hf:=Nv hb;refine⟨?_,he,?_,h.app,kW fun hh=>hf.2.2.2 hh.1⟩
 .unfold token;rw[hf.1,hf.2.1,hb,if_neg (by simp),if_neg (by simp),if_neg (fun hh=>hf.2.2.1 hh.1),if_pos rfl]
 .rw[he];exact h.extract
theorem aaQ{s:BY}{i:Nat}{r:List UInt8}(h:At s i r)(h1:kK (jy r)=false)(h2:jy r≠45)(h3:jy r≠92):iG s i=false:=by unfold iG;rw[h.hd,if_neg h2,h1];unfold kY;rw[h.hd];simp[h3]
theorem Xc{s w:BY}{i:Nat}{r:List UInt8}(hw:0<w.size)(h:At s i (gZ w++r)):aO (pk s i)=false/\dD (pk s i)=false/\pk s i≠35/\pk s i≠64/\pk s i≠60/\pk s i≠47:=by
 obtain⟨c,l,hc,hcc⟩:=Jz hw r;have e:pk s i=(c.toNat:Int):=by rw[hc]at h;exact h.hd
 have hn:=yx (c:=pk s i) (by rw[e];exact hcc.elim (fun h=>.inr (.inr h)) (fun h=>h.elim (fun h=>.inr (.inl h)) .inl));exact⟨hn.1,hn.2.1,hn.2.2.1,hn.2.2.2.1,hn.2.2.2.2.1,hn.2.2.2.2.2.2.2.1⟩
theorem JC{s w:BY}{i:Nat}{r:List UInt8}(hw:0<w.size)(hr:uG r)(h62:jy r≠62)(h:At s i (gZ w++r)):token s i=named s i/\name s i=(vZ w,i+(gZ w).length)/\At s (i+(gZ w).length) r/\com s i=i:=by
 have hf:=Xc hw h;refine⟨?_,ED hr h,h.app,kW fun hh=>hf.2.2.2.2.2 hh.1⟩;have h4:kG s i=false:=by unfold kG;simp[hf.2.2.2.2.1]
 unfold token;rw[hf.1,hf.2.1,adt hw h,h4,adu hw hr h62 h,Du hw h,if_neg (by simp),if_neg (by simp),if_neg (fun hh=>hf.2.2.1 hh.1),if_neg (by simp),if_neg (by simp),if_neg (by simp),if_neg (fun hh=>hf.2.2.2.1 hh.1),if_pos rfl]
theorem adv{w:BY}(hw:0<w.size)(r:List UInt8):nT (jy (oJ w++r))/\jy (oJ w++r)≠37:=by
 obtain⟨l,hl⟩:∃l,w.data.toList=l:=⟨_,rfl⟩;have hsz:w.size=l.length:=by rw[<-hl];rfl
 unfold oJ;rw[hl];match l,hsz with
 |[],hsz=>rw[hsz]at hw;exact absurd hw (Nat.lt_irrefl _)
 |c::l,_=>
  unfold ny;by_cases ho:(dZ w 0 c&&!((0:Nat)==0&&(c==101||c==69)))=true
  .rw[if_pos ho];show nT (c.toNat:Int)/\(c.toNat:Int)≠37;obtain⟨h1,h2⟩:=Bool.and_eq_true_iff.1 ho;simp at h2;have e1:c.toNat≠101:=fun e=>h2.1 (UInt8.toNat_inj.1 (by simpa using e));have e2:c.toNat≠69:=fun e=>h2.2 (UInt8.toNat_inj.1 (by simpa using e));rcases nS h1 with h|h|h
   .have hn:=yx (.inl h);unfold kK at h;simp at h;exact⟨⟨hn.2.2.2.2.2.2.2.2,hn.2.2.2.2.2.1,by omega,by omega⟩,by omega⟩
   .exact absurd rfl h.2.1
   .rw[h.1];unfold nT;decide
  .rw[if_neg ho];show nT (92:Int)/\(92:Int)≠37;unfold nT;decide
theorem Xd{s:BY}{i:Nat}{r:List UInt8}{p:Pc}(hp:p.ok)(hs:p.stop r)(hne:p≠.com)(h:At s i (p.bytes++r)):∃t,p.tok=some t/\token s i=(t,i+p.bytes.length)/\com s i=i:=by
 match p,hp,hs,hne,h with
 |.blank,_,hs,_,h=>have h0:At s i (32::r):=h;have e:pk s i=32:=h0.hd;refine⟨_,rfl,?_,kW fun hh=>by rw[e]at hh;exact absurd hh.1 (by decide)⟩;unfold token;rw[e,if_pos (by decide),Y0 h0 hs];rfl
 |.text w,_,_,_,h=>refine⟨_,rfl,aaM h,kW fun hh=>?_⟩;have e:pk s i=34:=At.hd (l:=34::_) h;rw[e]at hh;exact absurd hh.1 (by decide)
 |.hash w,hw,hs,_,h=>have h0:At s i (35::(gZ w++r)):=h;have e:pk s i=35:=h0.hd;refine⟨_,rfl,?_,kW fun hh=>by rw[e]at hh;exact absurd hh.1 (by decide)⟩;unfold token;rw[e,if_neg (by decide),if_neg (by decide),if_pos ⟨rfl,xu (Du hw h0.tl)⟩,ED hs h0.tl];refine Prod.ext rfl ?_;simp[Pc.bytes];omega
 |.num w,hw,hs,_,h=>obtain⟨h1,h2,h3,h4,h5⟩:=JB hw hs.1 h;refine⟨_,rfl,?_,h5⟩;rw[h1];unfold numeric;simp only[h2];rw[if_neg (by rw[h4.hd];exact hs.2.1),aaQ h4 hs.2.2.1 hs.2.2.2.1 hs.2.2.2.2,if_neg (by simp),<-h2,h3,h2];rfl
 |.pct w,hw,_,_,h=>
  have h0:At s i (w.data.toList++37::r):=by have:At s i (w.data.toList++[37]++r):=h;simpa using this
  obtain⟨h1,h2,h3,h4,h5⟩:=JB (r:=37::r) hw (show nT (37:Int) by unfold nT;decide) h0;refine⟨_,rfl,?_,h5⟩;rw[h1];unfold numeric;simp only[h2];rw[if_pos (by rw[h4.hd];rfl),<-h2,h3,h2];refine Prod.ext rfl ?_;have hl:w.size=w.data.toList.length:=rfl;show _=i+(w.data.toList++[37]).length;simp only[List.length_append,List.length_cons,List.length_nil];omega
 |.dim w u,hw,hs,_,h=>
  have h0:At s i (w.data.toList++(oJ u++r)):=by have:At s i (w.data.toList++oJ u++r):=h;simpa using this
  have hu:nT (jy (oJ u++r))/\jy (oJ u++r)≠37:=adv hw.2 r;obtain⟨h1,h2,h3,h4,h5⟩:=JB hw.1 hu.1 h0;refine⟨_,rfl,?_,h5⟩;rw[h1];unfold numeric;simp only[h2];rw[if_neg (by rw[h4.hd];exact hu.2),adq hw.2 h4,if_pos rfl,<-h2,h3,h2,aaK hs h4];refine Prod.ext rfl ?_;have hl:w.size=w.data.toList.length:=rfl;show _=i+(w.data.toList++oJ u).length;rw[List.length_append];show i+w.size+(oJ u).length=_;omega
 |.at_ w,hw,hs,_,h=>
  have h0:At s i (64::(gZ w++r)):=h;have e:pk s i=64:=h0.hd;refine⟨_,rfl,?_,kW fun hh=>by rw[e]at hh;exact absurd hh.1 (by decide)⟩;have hnum:iO s i=false:=by unfold iO mX;rw[e,if_neg (by decide),e];rfl
  have h4:kG s i=false:=by unfold kG;rw[e];rfl
  have h3:kL s i=false:=by unfold kL;rw[e];rfl
  unfold token;rw[e,hnum,h4,h3,if_neg (by decide),if_neg (by decide),if_neg (fun hh=>absurd hh.1 (by decide)),if_neg (by simp),if_neg (by simp),if_neg (by simp),if_pos ⟨rfl,Du hw h0.tl⟩,ED hs h0.tl];refine Prod.ext rfl ?_;simp[Pc.bytes];omega
 |.ident w,hw,hs,_,h=>obtain⟨h1,h2,h3,h5⟩:=JC hw hs.1 hs.2.2 h;refine⟨_,rfl,?_,h5⟩;rw[h1];unfold named;simp only[h2];rw[if_neg (by rw[h3.hd];exact hs.2.1)];rfl
 |.func w,hw,hs,_,h=>
  have h0:At s i (gZ w++40::r):=by have:At s i (gZ w++[40]++r):=h;simpa using this
  obtain⟨h1,h2,h3,h5⟩:=JC (r:=40::r) hw ⟨show lX 40=false by decide,show(40:Int)≠92 by decide⟩ (show(40:Int)≠62 by decide) h0;refine⟨_,rfl,?_,h5⟩;rw[h1];unfold named;simp only[h2];have e:pk s (i+(gZ w).length)=40:=h3.hd;rw[if_pos e,if_neg]
  .refine Prod.ext rfl ?_;simp[Pc.bytes];omega
  .rintro ⟨hu,hq⟩;obtain⟨r',hr|hr⟩:=hs hu
   .have h6:=h3.tl;rw[hr]at h6;have e6:pk s (i+(gZ w).length+1)=34:=h6.hd;rw[SN (by rw[e6];decide),e6]at hq;exact absurd hq (by decide)
   .have h6:=h3.tl;rw[hr]at h6;have e6:pk s (i+(gZ w).length+1+1)=34:=h6.tl.hd;rw[Y0 h6 (show aO 34=false by decide),e6]at hq;exact absurd hq (by decide)
 |.sign c,hc,hs,_,h=>have h0:At s i (c::r):=h;refine⟨_,rfl,aaP hc hs h0,kW fun hh=>?_⟩;have e:pk s i=(c.toNat:Int):=h0.hd;have e1:pk s (i+1)=jy r:=h0.tl.hd;rw[e,e1]at hh;exact hs.2.2.2 (UInt8.toNat_inj.1 (by simpa using(show c.toNat=47 by omega))) hh.2
 |.com,_,_,hne,_=>exact absurd rfl hne
def flat:List Pc->List UInt8
 |[]=>[]
 |p::r=>p.bytes++flat r
theorem aN:∀(a b:List Pc),flat (a++b)=flat a++flat b
 |[],_=>rfl
 |p::r,b=>by show p.bytes++flat (r++b)=p.bytes++flat r++flat b;rw[aN r b,List.append_assoc]
def Good:List Pc->List UInt8->Prop
 |[],_=>True
 |p::l,r=>p.ok/\p.stop (flat l++r)/\Good l r
theorem Good.append:∀ {a b:List Pc}{r:List UInt8},Good a (flat b++r)->Good b r->Good (a++b) r
 |[],_,_,_,h=>h
 |p::l,b,r,h,h'=>⟨h.1,by show p.stop (flat (l++b)++r);rw[aN,List.append_assoc];exact h.2.1,Good.append h.2.2 h'⟩
def dA(l:List Pc):List Tok:=l.filterMap Pc.tok
theorem cO(a b:List Pc):dA (a++b)=dA a++dA b:=List.filterMap_append
theorem Pc.pos{p:Pc}(h:p.ok):0<p.bytes.length:=by
 match p,h with
 |.blank,_=>exact Nat.one_pos
 |.text w,_=>simp[Pc.bytes,yw]
 |.hash w,_=>simp[Pc.bytes]
 |.num w,h=>
  show 0<w.data.toList.length;cases hl:w.data.toList with
  |cons c l=>simp
  |nil=>
   exfalso
   have:=(h ByteArray.empty 0 [] ⟨Nat.zero_le _,by rw[hl];rfl⟩ (by unfold nT jy;decide)).1;revert this;decide
 |.pct w,_=>simp[Pc.bytes]
 |.dim w u,h=>have:=rO (fun i c=>dZ u i c&&!(i==0&&(c==101||c==69))) u.data.toList 0;have h2:0<u.data.toList.length:=h.2;simp only[Pc.bytes,List.length_append,oJ];omega
 |.at_ w,_=>simp[Pc.bytes]
 |.ident w,h=>have:=rO (dZ w) w.data.toList 0;have h2:0<w.data.toList.length:=h;simp only[Pc.bytes,gZ];omega
 |.func w,_=>simp[Pc.bytes]
 |.sign c,_=>simp[Pc.bytes]
 |.com,_=>simp[Pc.bytes]
theorem EI{s:BY}:∀(l:List Pc) (i f:Nat),At s i (flat l)->Good l []->(flat l).length<=f->tokF s f (com s i)=dA l
 |[],i,f,h,_,_=>by
  have h0:At s i []:=h;have e:pk s i = -1:=h0.hd;rw[kW (fun hh=>by rw[e]at hh;exact absurd hh.1 (by decide))];have:=h0.size;cases f with
  |zero=>rfl
  |succ f=>unfold tokF;rw[if_pos (by simp at this;omega)];rfl
 |p::l,i,f,h,hg,hf=>by
  have h0:At s i (p.bytes++flat l):=h;obtain⟨g1,g2,g3⟩:=hg;rw[List.append_nil]at g2;have hpos:=Pc.pos g1;have hlen:(flat (p::l)).length=p.bytes.length+(flat l).length:=List.length_append;by_cases hp:p=.com
  .subst hp;have h1:At s (i+4) (flat l):=h0.app;have e:com s (i+4)=i+4:=kW fun hh=>g2 ⟨by rw[<-h1.hd];exact hh.1,by rw[<-YZ h1 (by rw[hh.1];decide)];exact hh.2⟩;have ih:=EI l (i+4) f h1 g3 AF;rw[e]at ih;rw[ads h0 g2,ih];rfl
  .obtain⟨t,ht,hsc,hcm⟩:=Xd g1 g2 hp h0;obtain⟨f,rfl⟩:∃g,f=g+1:=⟨f-1,by omega⟩;have hsz:=h0.size;rw[hcm];unfold tokF;rw[if_neg (by rw[List.length_append]at hsz;omega),hsc];show t::tokF s f (com s (i+p.bytes.length))=_;rw[EI l _ f h0.app g3 (by omega)];unfold dA;rw[List.filterMap_cons,ht]
def aaR(t:Tok):Prop:=t.kind=5\/t.kind=6\/t.kind=7->LX t.word
def adw(r:List Tok):Prop:=∃t r',(t.kind=2\/t.kind=3)/\(r=t::r'\/∃b,b.kind=1/\r=b::t::r')
def uT:List Tok->Prop
 |[]=>True
 |t::r=>(aaR t/\(t.kind=11->small t.word=url->adw r))/\uT r
theorem Y3:∀(l:List Tok) (k:Nat),uT l->uT (l.drop k)
 |[],k,_=>by simp[uT]
 |t::r,0,h=>h
 |t::r,k+1,h=>Y3 r k h.2
theorem SS{s:BY}{i:Nat}(hi:i<=s.size)(h:iO s i=true):aaR (numeric s i).1/\(numeric s i).1.kind≠11:=by
 have hw:=adr hi h;unfold numeric;simp only;split
 .exact⟨fun _=>hw,by simp[Tok.w]⟩
 .split
  .exact⟨fun _=>hw,by simp⟩
  .exact⟨fun _=>hw,by simp[Tok.w]⟩
theorem aaS{s:BY}{i:Nat}(hi:i<=s.size):aaR (token s i).1/\((token s i).1.kind=11->token s i=named s i):=by
 unfold token;split
 .exact⟨fun h=>by simp[Tok.k]at h,fun h=>by simp[Tok.k]at h⟩
 .split
  .have:=(lu s (pk s i) s.size (i+1) ByteArray.empty).1;unfold txt;exact⟨fun h=>by omega,fun h=>by omega⟩
  .split
   .exact⟨fun h=>by simp[Tok.w]at h,fun h=>by simp[Tok.w]at h⟩
   .split
    .rename_i h;have:=SS hi h;exact⟨this.1,fun h=>absurd h this.2⟩
    .split
     .exact⟨fun h=>by simp[Tok.k]at h,fun h=>by simp[Tok.k]at h⟩
     .split
      .exact⟨fun h=>by simp[Tok.k]at h,fun h=>by simp[Tok.k]at h⟩
      .split
       .exact⟨fun h=>by simp[Tok.w]at h,fun h=>by simp[Tok.w]at h⟩
       .split
        .refine⟨fun h=>?_,fun _=>rfl⟩;exfalso
         unfold named at h;simp only at h;split at h
         .split at h
          .unfold link at h;have:=(mQ s s.size (blk s ((name s i).2+1)) ByteArray.empty).1;omega
          .simp[Tok.w]at h
         .simp[Tok.w]at h
        .exact⟨fun h=>by simp[Tok.w]at h,fun h=>by simp[Tok.w]at h⟩
theorem aaT{s:BY}{i:Nat}(h:(named s i).1.kind=11)(hu:small (named s i).1.word=url):(named s i).2=(name s i).2+1/\dD (pk s (blk s ((name s i).2+1)))=true:=by
 unfold named at h hu⊢;simp only at h hu⊢;by_cases Gt:pk s (name s i).2=40
 .rw[if_pos Gt]at h hu⊢;by_cases hq:small (name s i).1=url/\dD (pk s (blk s ((name s i).2+1)))=false
  .rw[if_pos hq]at h;unfold link at h;have:=(mQ s s.size (blk s ((name s i).2+1)) ByteArray.empty).1;omega
  .rw[if_neg hq]at hu⊢;refine⟨rfl,?_⟩;by_cases hh:dD (pk s (blk s ((name s i).2+1)))=true
   .exact hh
   .exact absurd ⟨hu,by simpa using hh⟩ hq
 .rw[if_neg Gt]at h;simp[Tok.w]at h
theorem aaU{s:BY}{i:Nat}(h:dD (pk s i)=true):((token s i).1.kind=2\/(token s i).1.kind=3)/\com s i=i:=by
 have hb:aO (pk s i)=false:=by unfold dD at h;unfold aO;simp at h⊢;omega
 refine⟨?_,kW fun hh=>by rw[hh.1]at h;exact absurd h (by decide)⟩;unfold token;rw[hb,if_neg (by simp),if_pos h];exact(lu s (pk s i) s.size (i+1) ByteArray.empty).1
theorem aaV{s:BY}{j f:Nat}(hq:dD (pk s (blk s j))=true)(hf:s.size<=j+f):adw (tokF s f (com s j)):=by
 have hge:=Ee s j;have hlt:blk s j<s.size:=dY (abU hq);have hqt:=aaU hq;by_cases hb:aO (pk s j)=true
 .have hgt:=Vp hb;have hc:com s j=j:=kW fun hh=>by rw[hh.1]at hb;exact absurd hb (by decide)
  obtain⟨f,rfl⟩:∃g,f=g+1:=⟨f-1,by omega⟩;obtain⟨f,rfl⟩:∃g,f=g+1:=⟨f-1,by omega⟩;have ht:token s j=(Tok.k 1,blk s j):=by unfold token;rw[if_pos hb]
  rw[hc];unfold tokF;rw[if_neg (by omega),ht];simp only;rw[hqt.2];unfold tokF;rw[if_neg (by omega)];exact⟨_,_,hqt.1,.inr ⟨Tok.k 1,rfl,rfl⟩⟩
 .have e:=SN (s:=s) (i:=j) (by simpa using hb);rw[e]at hqt hlt;obtain⟨f,rfl⟩:∃g,f=g+1:=⟨f-1,by omega⟩;rw[hqt.2];unfold tokF;rw[if_neg (by omega)];exact⟨_,_,hqt.1,.inl rfl⟩
theorem adx{s:BY}:∀f i,s.size<=i+f->uT (tokF s f i)
 |0,i,_=>by simp[tokF,uT]
 |f+1,i,h=>by
  unfold tokF;by_cases hi:s.size<=i
  .rw[if_pos hi];simp[uT]
  .rw[if_neg hi];have hgt:=xA (s:=s) (i:=i) AF;have hle:=xB (s:=s) (i:=i) AF;have hcg:=Vq hle;have hn:=aaS (s:=s) (i:=i) AF;refine⟨⟨hn.1,fun hk hu=>?_⟩,adx f _ AF⟩;have e:=hn.2 hk;rw[e]at hk hu;obtain⟨h2,h3⟩:=aaT hk hu;rw[e,h2]at hgt⊢;exact aaV h3 AF
theorem ajy(s:BY):uT (toks s):=adx _ _ AF
def Y4(k:List Nd):Prop:=∃n r',(n.t.kind=2\/n.t.kind=3)/\(k=n::r'\/∃b,b.t.kind=1/\k=b::n::r')
mutual
def uN:Nd->Prop
 |.mk t k=>(aaR t/\(t.kind=11->small t.word=url->Y4 k))/\uL k
def uL:List Nd->Prop
 |[]=>True
 |n::r=>uN n/\uL r
end
theorem ajz(n:Nd):uN n↔(aaR n.t/\(n.t.kind=11->small n.t.word=url->Y4 n.kids))/\uL n.kids:=by cases n;simp[uN]
theorem OU:∀(l:List Nd),uL l↔∀n∈l,uN n
 |[]=>by simp[uL]
 |m::r=>by simp[uL,OU r]
theorem OV{a b:List Nd}(h:uL b)(hs:∀n∈a,n∈b):uL a:=(OU a).2 fun n hn=>(OU b).1 h n (hs n hn)
theorem JD{t:Tok}(h:t.kind≠15)(e:BY):¬(e≠aA/\au t e=true):=fun hh=>by have:=hh.2;unfold au at this;simp[h]at this
theorem wu{t:Tok}(h:t.kind≠15)(h':t.kind≠11):closing t=aA:=by unfold closing;rw[if_neg h',if_neg h]
theorem sU{t:Tok}(h:closing t=aA)(r:List Tok):inside t r=([],r):=by unfold inside;rw[if_pos h]
theorem aaW{e:BY}{ts:List Tok}(h:adw ts):Y4 (kids e ts).1:=by
 obtain⟨t,r',ht,h|⟨b,hb,h⟩⟩:=h
 .rw[h,iy (JD (by omega) e),sU (wu (by omega) (by omega))];exact⟨.mk t [],_,ht,.inl rfl⟩
 .rw[h,iy (JD (by omega) e),sU (wu (by omega) (by omega)),iy (JD (by omega) e),sU (wu (by omega) (by omega))];exact⟨.mk t [],_,ht,.inr ⟨.mk b [],hb,rfl⟩⟩
theorem ajA(n:Nat):∀(e:BY) (ts:List Tok),ts.length<=n->uT ts->uL (kids e ts).1:=by
 induction n with
 |zero=>intro e ts h _;obtain rfl:ts=[]:=List.eq_nil_of_length_eq_zero AF;simp[jB,uL]
 |succ n ih=>
  intro e ts h hok;cases ts with
  |nil=>simp[jB,uL]
  |cons t r=>
   simp only[List.length_cons]at h;by_cases hc:e≠aA/\au t e=true
   .simp[qX hc,uL]
   .rw[iy hc];have hl:=qW t r;obtain⟨k,hk,hk2⟩:=Fb t r;have h1:uL (inside t r).1:=by
     unfold inside;split
     .simp[uL]
     .exact ih _ r AF hok.2
    have h2:uL (kids e (inside t r).2).1:=ih e _ AF (by rw[hk2];exact Y3 _ _ hok.2);refine⟨⟨⟨hok.1.1,fun hk hu=>?_⟩,h1⟩,h2⟩;have hh:=hok.1.2 hk hu;unfold inside;rw[if_neg (by unfold closing;rw[if_pos hk];decide)];exact aaW hh
theorem agF(s:BY):uL (bH s):=ajA _ _ _ (Nat.le_refl _) (ajy _)
