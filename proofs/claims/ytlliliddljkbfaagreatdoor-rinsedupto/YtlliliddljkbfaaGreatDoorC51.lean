import Derived.Test.YtlliliddljkbfaaGreatDoorC3
import Derived.Test.YtlliliddljkbfaaGreatDoorC4
import Derived.Test.YtlliliddljkbfaaGreatDoorC20
import Derived.Test.YtlliliddljkbfaaGreatDoorC39
import Derived.Test.YtlliliddljkbfaaGreatDoorC47
import Derived.Test.YtlliliddljkbfaaGreatDoorC48
import Derived.Test.YtlliliddljkbfaaGreatDoorC50
namespace Go.Proofs.YtlliliddljkbfaaGreatDoor
set_option maxHeartbeats 64000000
set_option maxRecDepth 100000
open Go.Proofs.Tryz (prog)
open Go.RowKit Sp
structure Lit(w:World):Prop where
 glob:∃m,w.cell? ⟨0,0,none⟩=some (.int .i64 m)
 pos:0<w.heap.size
theorem Lit.below{w w':World}(h:Lit w)(hb:Below w.heap.size w w'):Lit w':=by obtain⟨m,hm⟩:=h.glob;exact⟨⟨m,by rw[<-hm];exact World.cell?_of_block (w:=w) (hb.block 0 h.pos)⟩,Nat.lt_of_lt_of_le h.pos hb.size⟩
theorem Oa(s:ByteArray)(w:World)(hs:s.size<=600)(hl:Lit w):
  Calls prog 23 #[.string s] w fun e w'=>(∃u,e=.returned (.tuple #[u,.bool (decide (depth (iJ s)<=8))])/\(depth (iJ s)<=8->SG kL 4 (fun b=>b<w'.heap.size) w' u (rules true (iJ s)))/\(¬depth (iJ s)<=8->u=.slice none 0 0))/\Below w.heap.size w w':=by
 have HL:Hid (Lit w):=hl;have hcs:=oD s;have htl:=Kz (Sp.clean s);have HTO:Hid (∀t∈toks (Sp.clean s),cZ t):=J8 oo;obtain⟨nd,Hnd⟩:∃nd,Hid (iJ s=nd):=⟨_,hid rfl⟩;have Hn2:Hid (nodes (toks (Sp.clean s))=nd):=Hnd.o;rw[Hnd.o];clear hl;go_in;go_wp2_with fail;refine(JQ s w hs HL.o.glob HL.o.pos).mono ?_;rintro e w1 ⟨c,cap,n,rfl,hcw,hch,hb1⟩;have HC:Hid (w1.heap[c]?=some (.chan cap ((toks (Sp.clean s)).map aF).toArray true n 0 false)):=hch;have B1:Hid (Below w.heap.size w w1):=hb1;have hs1:=hb1.size;clear hch hb1;go_wp2_with fail;refine(acg (toks (Sp.clean s)) c cap n 0 w1 HC.o oo HTO.o).mono ?_;rw[Hn2.o];rintro e w2 ⟨v2,rfl,hS2,hT2⟩;obtain⟨va,vc,rfl⟩:=hS2.form;have B2:Hid (Below w.heap.size w w2):=Turn.over B1.o hT2 hcw;have hs2:=B2.o.size
 have HS2:Hid (Sl (fun b=>b<w2.heap.size) w2 (.slice va nd.length vc) nd):=hS2.keep (fun _ h=>h.2) (fun _ _=>rfl);clear hS2 hT2 HC;by_cases hd:depth nd<=8
 .have hd2:¬(8:Int)<(depth nd:Int):=oo;have hd3:(depth nd:Int)<=8:=oo;have HD:Hid (depth nd<=8):=hd;clear hd;go_wp2_with fail;refine(LJ w2.heap.size nd _ w2 HS2.o nl).mono ?_;rintro e w3 ⟨u3,rfl,acn,hb3⟩;obtain⟨ra,rc,rfl⟩:=acn.form;have OX:Hid (SG kL 4 (fun b=>b<w3.heap.size) w3 (.slice ra (rules true nd).length rc) (rules true nd)):=acn;have B3:Hid (Below w.heap.size w w3):=B2.o.trans (hb3.mono hs2);clear acn hb3;go_wp2_with fail;go_ret2
  exact⟨⟨_,by rw[decide_eq_true HD.o];rfl,fun _=>OX.o,fun h=>absurd HD.o h⟩,B3.o⟩
 .have hd2:(8:Int)<(depth nd:Int):=oo;have HD:Hid (¬depth nd<=8):=hd;clear hd;go_wp2_with fail;go_ret2
  exact⟨⟨_,by rw[decide_eq_false HD.o];rfl,fun h=>absurd h HD.o,fun _=>rfl⟩,B2.o⟩
theorem Gv{s:ByteArray}{p:aS}(h:kS p=false):jM s p=(aA,5):=by unfold jM;rw[if_pos h]
theorem Dk{s:ByteArray}{p:aS}(h:kS p=true)(h1:600<s.size):jM s p=(aA,1):=by unfold jM;rw[if_neg (by rw[h];simp),if_pos h1]
theorem Dl{s:ByteArray}{p:aS}(h:kS p=true)(h1:¬600<s.size)(h2:¬depth (iJ s)<=8):jM s p=(aA,2):=by unfold jM;rw[if_neg (by rw[h];simp),if_neg h1,if_pos oo]
theorem Dn{s:ByteArray}{p:aS}(h:kS p=true)(h1:¬600<s.size)(h2:depth (iJ s)<=8):jM s p=(oQ p (depth (iJ s)) true (iJ s),0):=by unfold jM;rw[if_neg (by rw[h];simp),if_neg h1,if_neg oo]
theorem aas(B:Nat)(s:ByteArray)(p:aS)(pv fv av:Value)(w:World)(hP:iO B w p pv fv av)(hI:eX w)(hds:ig)(hl:Lit w)(hr:p.root.size<=4194304)(hs:s.size<4611686018427387904):
  Calls prog 10 #[.string s,dD p pv fv av] w fun e w'=>e=.returned (.tuple #[.string (jM s p).1,.int .i64 (jM s p).2])/\Below w.heap.size w w':=by
 have hB:=hP.lt;obtain⟨pa,pc,rfl⟩:=hP.props.form;obtain⟨fa,fc,rfl⟩:=hP.au.form;obtain⟨aa,ac,rfl⟩:=hP.ats.form;have HL:Hid (Lit w):=hl;have NQ:Hid (eX w):=hI;have Si:Hid ig:=hds;have DY:Hid (iO B w p (.slice pa p.props.length pc) (.slice fa p.au.length fc) (.slice aa p.ats.length ac)):=hP;obtain⟨B0,Q0⟩:=Qa.nb p pa fa aa pc fc ac w;clear hP hl hI hds;unfold dD;go_in;go_upto_region 1 with fail
 have hsz0:=B0.o.size;generalize w.alloc (.cells #[.string p.root,.slice pa p.props.length pc,.slice fa p.au.length fc,.slice aa p.ats.length ac,.bool p.aO,.bool p.texts] 26)=w0 at *;obtain⟨q0,q1,q2,q3,q4,q5⟩:=Q0.o.cs;have HC:=Zv B p _ _ _ w0 (DY.o.below B0.o hB) hr;unfold dD at HC;obtain⟨z,Hz⟩:∃z,Hid (kS p=z):=⟨_,hid rfl⟩;rw[Hz.o]at HC;have Ib:Hid (Calls prog 22 #[.agg #[.string p.root,.slice pa p.props.length pc,.slice fa p.au.length fc,.slice aa p.ats.length ac,.bool p.aO,.bool p.texts]] w0 fun e w'=>(∃u,e=.returned (.tuple #[u,.bool z])/\(z=true->u=.agg #[.string p.root,.slice pa p.props.length pc,.slice fa p.au.length fc,.slice aa p.ats.length ac,.bool p.aO,.bool p.texts])/\(z=false->u=.agg #[.string ⟨#[]⟩,.slice none 0 0,.slice none 0 0,.slice none 0 0,.bool false,.bool false]))/\Below w0.heap.size w0 w'):=HC;clear HC
 go_wp2_with fail;refine Ib.o.mono ?_;rintro e w1 ⟨⟨u,rfl,hu1,hu2⟩,hb1⟩;have B1:Hid (Below w.heap.size w w1):=B0.o.trans (hb1.mono hsz0);have hs1:=B1.o.size;clear hb1 Ib q0 q1 q2 q3 q4 q5;cases z
 .have hu:=hu2 rfl;subst hu;have HV:Hid (jM s p=(aA,5)):=Gv Hz.o;clear hu1 hu2;go_wp2_with fail;go_ret2
  rw[HV.o];exact⟨rfl,B1.o.alloc hs1 _⟩
 .have hu:=hu1 rfl;subst hu;clear hu1 hu2;have B2:Hid (Below w.heap.size w (w1.alloc (.cells #[.string p.root,.slice pa p.props.length pc,.slice fa p.au.length fc,.slice aa p.ats.length ac,.bool p.aO,.bool p.texts] 51))):=B1.o.alloc hs1 _;have Q2:Hid (Q6 (w1.alloc (.cells #[.string p.root,.slice pa p.props.length pc,.slice fa p.au.length fc,.slice aa p.ats.length ac,.bool p.aO,.bool p.texts] 51)) w1.heap.size (.string p.root) (.slice pa p.props.length pc) (.slice fa p.au.length fc) (.slice aa p.ats.length ac) (.bool p.aO) (.bool p.texts)):=Q6.new _ _ _ _ _ _ _;go_upto_region 2 with fail
  generalize w1.alloc (.cells #[.string p.root,.slice pa p.props.length pc,.slice fa p.au.length fc,.slice aa p.ats.length ac,.bool p.aO,.bool p.texts] 51)=w2 at *;obtain⟨gt,oU⟩:∃gt,Hid (w1.heap.size=gt):=⟨_,hid rfl⟩;rw[oU.o]at Q2 hs1⊢;have hs2:=B2.o.size;have hlt2:=Q2.o.lt;by_cases h6:600<s.size
  .have h6i:(600:Int)<(s.size:Int):=oo;have HV:Hid (jM s p=(aA,1)):=Dk Hz.o h6;clear h6;go_wp2_with fail;go_ret2
   rw[HV.o];exact⟨rfl,B2.o⟩
  .have h6i:¬(600:Int)<(s.size:Int):=oo;have h6j:(s.size:Int)<=600:=oo;have H6:Hid (¬600<s.size):=h6;clear h6;have HLW:=HL.o.below B2.o;have UZ:=Oa s w2 oo HLW;obtain⟨dd,Hdd⟩:∃dd,Hid (decide (depth (iJ s)<=8)=dd):=⟨_,hid rfl⟩;rw[Hdd.o]at UZ;have Ob:=hid UZ;clear UZ HLW;go_wp2_with fail;refine Ob.o.mono ?_;rintro e w3 ⟨⟨u3,rfl,hu1,hu2⟩,hb3⟩;have B3:Hid (Below w.heap.size w w3):=B2.o.trans (hb3.mono hs2);have Wj:Hid (Q6 w3 gt (.string p.root) (.slice pa p.props.length pc) (.slice fa p.au.length fc) (.slice aa p.ats.length ac) (.bool p.aO) (.bool p.texts)):=Q2.o.below hb3 hlt2;have hs3:=B3.o.size;clear hb3 Ob;cases dd
   .have hd:=of_decide_eq_false Hdd.o;have hu:=hu2 hd;subst hu;have HV:Hid (jM s p=(aA,2)):=Dl Hz.o H6.o hd;clear hu1 hu2 hd;go_wp2_with fail;go_ret2
    rw[HV.o];exact⟨rfl,B3.o⟩
   .have hd:=of_decide_eq_true Hdd.o;have hsg:=hu1 hd;obtain⟨ra,rc,rfl⟩:=hsg.form;have OX:=hid hsg;have HV:Hid (jM s p=(oQ p (depth (iJ s)) true (iJ s),0)):=Dn Hz.o H6.o hd;clear hu1 hu2 hd hsg;have hpp:=Hz.o;rw[JX]at hpp;simp only[Bool.and_eq_true,decide_eq_true_eq]at hpp;have hsg:=Sj (s:=s) oo;have HB:=N7 p (.slice pa p.props.length pc) (.slice fa p.au.length fc) (.slice aa p.ats.length ac) Si.o hpp.1.1.1.1.1 hpp.1.1.1.1.2 (depth (iJ s)) true (iJ s) B w DY.o NQ.o hsg.1 nl hsg.2 _ w3 B3.o OX.o;unfold dD at HB;have HB':=hid HB;clear HB hpp hsg;obtain⟨q0,q1,q2,q3,q4,q5⟩:=Wj.o.cs;go_wp2_with fail;refine HB'.o.mono ?_;rintro e w4 ⟨rfl,hb4⟩;have B4:Hid (Below w.heap.size w w4):=B3.o.trans (hb4.mono hs3);clear hb4 HB';go_wp2_with fail;go_ret2
    rw[HV.o];exact⟨rfl,B4.o⟩
theorem aaM{p:aS}{pv fv av:Value}{rec:List Nd->ByteArray}{w:World}{sh:Bool}{l:List Nd}(hg:gL l)(hz:fB l<=4000000)
  (hrec:∀b,gL b->depth b+1<=depth l->fB b<=4000000->XW p pv fv av (rules false b) (rec b) w):∀r∈rules sh l,aam p pv fv av rec w r:=by
 intro r hr;obtain⟨h1,h2,h3,h4⟩:=pF hg r hr;have h6:fB r.head+fB (r.body.getD [])<=4000000:=by unfold rwz at h4;omega
 refine⟨NU _ h1,h2,oo,fun ss hs=>?_,fun _=>?_,fun x b hx hb=>?_⟩
 .have:=KE _ _ _ hs;omega
 .have:=(DZ (r.body.getD [])).1;omega
 .have h7:=h3 b hb;rw[hb]at h6;exact hrec b h7.1 h7.2 (by show fB b<=_;have:fB r.head+fB b<=4000000:=h6;omega)
theorem Oc(p:aS)(pv fv av:Value)(hds:ig)(qx:p.root.size<=12):∀(f:Nat) (sh:Bool) (l:List Nd) (B:Nat) (w:World),iO B w p pv fv av->eX w->gL l->depth l<=f->fB l<=4000000->XW p pv fv av (rules sh l) (oQ p f sh l) w
 |0,sh,l,B,w,hP,hI,hg,hd,hz=>by intro u w' hb hs;have hlt:=hP.lt;have hsz:=rV hds p qx 0 sh l hg;have hP':iO w'.heap.size w' p pv fv av:=(hP.below hb hlt).mono (by have:=hb.size;omega) nl;unfold oQ at hsz⊢;exact Jo w'.heap.size p pv fv av (fun _=>aA) (rules sh l) u w' hP' hs (hI.below hb nl) hds qx (aaM hg hz (fun b _ h _=>by omega)) oo
 |f+1,sh,l,B,w,hP,hI,hg,hd,hz=>by
  intro u w' hb hs;have hlt:=hP.lt;have hsz:=rV hds p qx (f+1) sh l hg;have hP':iO w'.heap.size w' p pv fv av:=(hP.below hb hlt).mono (by have:=hb.size;omega) nl;have hI':=hI.below hb nl;conv at hsz=>unfold oQ
  conv in oQ p (f+1) sh l=>unfold oQ
  exact Jo w'.heap.size p pv fv av (oQ p f false) (rules sh l) u w' hP' hs hI' hds qx (aaM hg hz (fun b hgb h hzb=>Oc p pv fv av hds qx f false b _ w' hP' hI' hgb oo hzb)) oo
theorem Yf:∀(ts:List Tok) (i:Nat) (h:i<ts.length),(gY ts)[i*3]?=some (.int .i64 ts[i].kind)/\(gY ts)[i*3+1]?=some (.string ts[i].word)/\(gY ts)[i*3+2]?=some (.string ts[i].unit)
 |t::r,0,_=>⟨rfl,rfl,rfl⟩
 |t::r,i+1,h=>by
  have:=Yf r i (by simpa using h);have e:∀j,(gY (t::r))[(i+1)*3+j]?=(gY r)[i*3+j]?:=fun j=>by
   show([Value.int .i64 t.kind,.string t.word,.string t.unit]++gY r)[(i+1)*3+j]?=_;rw[List.getElem?_append_right (by simp;omega)];congr 1
   simp;omega
  have e0:=e 0;rw[Nat.add_zero,Nat.add_zero]at e0;exact⟨by rw[e0];simpa using this.1,by rw[e 1];simpa using this.2.1,by rw[e 2];simpa using this.2.2⟩
theorem aco{w:World}{base:Nat}{v:Value}{ts:List Tok}(h:w.ownsRow base 68 3 v ts.length (gY ts)):TSl w v ts:=by
 rcases h.2 with⟨rfl,hn⟩|⟨g,cap,cur,rfl,hbg,hgg,rest⟩
 .have:ts=[]:=List.eq_nil_of_length_eq_zero hn;subst this;exact⟨none,0,rfl,fun h=>absurd rfl h⟩
 .refine⟨_,cap,rfl,fun _=>⟨g,rfl,(Array.getElem?_eq_some_iff.1 hgg).1,?_⟩⟩;intro i hi;have hc:∀j u,(gY ts)[j]?=some u->w.cell? ⟨g,j,none⟩=some u:=fun j u hu=>by
   have:=h.cells (g:=g) rfl j u hu;rwa[Addr.add_lit,Nat.zero_add]at this
  obtain⟨h0,h1,h2⟩:=Yf ts i hi;exact⟨hc _ _ h0,hc _ _ h1,hc _ _ h2⟩
theorem Yg(n:Nat):∀(e:ByteArray) (ts:List Tok),ts.length<=n->depth (kids e ts).1+(kids e ts).2.length<=ts.length:=by
 induction n with
 |zero=>intro e ts h;obtain rfl:ts=[]:=List.eq_nil_of_length_eq_zero oo;rw[kJ];simp[depth]
 |succ n ih=>
  intro e ts h;cases ts with
  |nil=>rw[kJ];simp[depth]
  |cons t r=>
   simp only[List.length_cons]at h⊢;by_cases hs:e≠aA/\ay t e=true
   .rw[qP hs];simp[depth]
   .rw[kQ hs];have hin:depth (inside t r).1+(inside t r).2.length<=r.length/\(inside t r).2.length<=n:=by
     unfold inside;by_cases hc:closing t=aA
     .rw[if_pos hc];simp[depth];omega
     .rw[if_neg hc];have:=ih (closing t) r oo;omega
    have h2:=ih e (inside t r).2 hin.2;have e1:∀(x:Nd) (q:List Nd),depth (x::q)=max (jS x) (depth q):=fun x q=>by conv=>lhs;unfold depth
    show depth (Nd.mk t (inside t r).1::(kids e (inside t r).2).1)+(kids e (inside t r).2).2.length<=r.length+1;rw[e1];by_cases hc:closing t=aA
    .rw[uO (n:=.mk t _) hc];omega
    .rw[mY (n:=.mk t _) hc];show max (depth (inside t r).1+1) (depth (kids e (inside t r).2).1)+(kids e (inside t r).2).2.length<=r.length+1;omega
theorem UK{s:ByteArray}(hs:s.size<=600):depth (iJ s)<=1000:=by have h1:=oD s;have h2:=Kz (Sp.clean s);have h3:=Yg _ aA (toks (Sp.clean s)) nl;have e:iJ s=(kids aA (toks (Sp.clean s))).1:=rfl;rw[e];omega
def shP(nd:List Nd)(w':World)(e:Ending):Prop:=if depth nd<=8 then ∃u,e=.returned (.tuple #[u,.int .i64 0])/\Sl (fun b=>b<w'.heap.size) w' u nd else e=.returned (.tuple #[.slice none 0 0,.int .i64 2])
theorem aat(s:ByteArray)(w:World)(hs:s.size<=600):Calls prog 26 #[.string s] w fun e w'=>shP (iJ s) w' e/\Below w.heap.size w w':=by
 have hcs:=oD s;have htl:=Kz (Sp.clean s);have HTO:Hid (∀t∈toks (Sp.clean s),cZ t):=J8 oo;obtain⟨nd,Hnd⟩:∃nd,Hid (iJ s=nd):=⟨_,hid rfl⟩;have Hn2:Hid (nodes (toks (Sp.clean s))=nd):=Hnd.o;have hdz:depth nd<=1000:=by rw[<-Hnd.o];exact UK hs
 rw[Hnd.o];go_in;go_wp2_with fail;refine(TJ s w hs).mono ?_;obtain⟨ts,Hts⟩:∃ts,Hid (toks (Sp.clean s)=ts):=⟨_,hid rfl⟩;rw[Hts.o]at HTO Hn2 htl⊢;rintro e w1 ⟨tv,rfl,hown,hb1⟩;obtain⟨ta,tc,rfl⟩:=iL hown;have HT:Hid (TSl w1 (.slice ta ts.length tc) ts):=aco hown;have B1:Hid (Below w.heap.size w w1):=hb1;have hs1:=hb1.size;clear hown hb1;go_wp2_with fail;refine(Vm ts _ w1 oo HT.o HTO.o).mono ?_;rw[Hn2.o];rintro e w2 ⟨v2,rfl,hS2,hb2⟩;obtain⟨va,vc,rfl⟩:=hS2.form;have B2:Hid (Below w.heap.size w w2):=B1.o.trans (hb2.mono hs1);have hs2:=B2.o.size;have HS2:Hid (Sl (fun b=>b<w2.heap.size) w2 (.slice va nd.length vc) nd):=hS2.keep (fun _ h=>h.2) (fun _ _=>rfl);clear hS2 hb2;go_wp2_with fail;refine pmb (YO (depth nd) w2.heap.size nd _ w2 hdz nl HS2.o nl) fun w3 hb3=>?_
 have B3:Hid (Below w.heap.size w w3):=B2.o.trans (hb3.mono hs2);have Om:Hid (Sl (fun b=>b<w3.heap.size) w3 (.slice va nd.length vc) nd):=(HS2.o.below hb3 nl).mono hb3.size;clear hb3;by_cases hd:depth nd<=8
 .have hd2:(depth nd:Int)<=8:=oo;have HD:Hid (depth nd<=8):=hd;clear hd;go_wp2_with fail;go_ret2
  refine⟨?_,B3.o⟩;unfold shP;rw[if_pos HD.o];exact⟨_,rfl,Om.o⟩
 .have hd2:(8:Int)<(depth nd:Int):=oo;have HD:Hid (¬depth nd<=8):=hd;clear hd;go_wp2_with fail;go_ret2
  refine⟨?_,B3.o⟩;unfold shP;rw[if_neg HD.o];rfl
theorem aau(B:Nat)(s:ByteArray)(p:aS)(pv fv av:Value)(w:World)(hP:iO B w p pv fv av)(hI:eX w)(hds:ig)(hr:p.root.size<=4194304)(hs:s.size<4611686018427387904):
  Calls prog 12 #[.string s,dD p pv fv av] w fun e w'=>e=.returned (.tuple #[.string (jM s p).1,.int .i64 (jM s p).2])/\Below w.heap.size w w':=by
 have hB:=hP.lt;obtain⟨pa,pc,rfl⟩:=hP.props.form;obtain⟨fa,fc,rfl⟩:=hP.au.form;obtain⟨aa,ac,rfl⟩:=hP.ats.form;have NQ:Hid (eX w):=hI;have Si:Hid ig:=hds;have DY:Hid (iO B w p (.slice pa p.props.length pc) (.slice fa p.au.length fc) (.slice aa p.ats.length ac)):=hP;obtain⟨B0,Q0⟩:=Qa.nb p pa fa aa pc fc ac w;clear hP hI hds;unfold dD;go_in;go_upto_region 1 with fail
 have hsz0:=B0.o.size;have hlt0:=Q0.o.lt;generalize w.alloc (.cells #[.string p.root,.slice pa p.props.length pc,.slice fa p.au.length fc,.slice aa p.ats.length ac,.bool p.aO,.bool p.texts] 26)=w0 at *;obtain⟨gb,RF⟩:∃gb,Hid (w.heap.size=gb):=⟨_,hid rfl⟩;rw[RF.o]at Q0 hlt0 B0 hsz0 hB⊢;obtain⟨q0,q1,q2,q3,q4,q5⟩:=Q0.o.cs;have HC:=KF B p _ _ _ w0 (DY.o.below B0.o hB) hr;unfold dD at HC;obtain⟨z,Hz⟩:∃z,Hid (kS p=z):=⟨_,hid rfl⟩;rw[Hz.o]at HC;have Ib:Hid (Calls prog 25 #[.agg #[.string p.root,.slice pa p.props.length pc,.slice fa p.au.length fc,.slice aa p.ats.length ac,.bool p.aO,.bool p.texts]] w0 fun e w'=>e=.returned (.bool z)/\Below w0.heap.size w0 w'):=HC;clear HC;go_wp2_with fail;refine Ib.o.mono ?_;rintro e w1 ⟨rfl,hb1⟩;have X1:Hid (Below w0.heap.size w0 w1):=hb1
 have B1:Hid (Below gb w w1):=B0.o.trans (hb1.mono hsz0);have hs1:=X1.o.size;clear hb1 Ib q0 q1 q2 q3 q4 q5;cases z
 .have HV:Hid (jM s p=(aA,5)):=Gv Hz.o;go_wp2_with fail;go_ret2
  rw[HV.o,RF.o];exact⟨rfl,B1.o⟩
 .by_cases h6:600<s.size
  .have h6i:(600:Int)<(s.size:Int):=oo;have HV:Hid (jM s p=(aA,1)):=Dk Hz.o h6;clear h6;go_wp2_with fail;go_ret2
   rw[HV.o,RF.o];exact⟨rfl,B1.o⟩
  .have h6j:(s.size:Int)<=600:=oo;have H6:Hid (¬600<s.size):=h6;clear h6;have UZ:=aat s w1 oo;obtain⟨nd,Hnd⟩:∃nd,Hid (iJ s=nd):=⟨_,hid rfl⟩;rw[Hnd.o]at UZ;unfold shP at UZ;by_cases hd:depth nd<=8
   .simp only[if_pos hd]at UZ;have HV:Hid (jM s p=(oQ p (depth nd) true nd,0)):=by show _=_;rw[<-Hnd.o];exact Dn Hz.o H6.o (by rw[Hnd.o];exact hd)
    have Ob:=hid UZ;have HD:Hid (depth nd<=8):=hd;clear UZ hd;go_wp2_with fail;refine Ob.o.mono ?_;rintro e w2 ⟨⟨u,rfl,hsl⟩,hb2⟩;obtain⟨ua,uc,rfl⟩:=hsl.form;have HSL:Hid (Sl (fun b=>b<w2.heap.size) w2 (.slice ua nd.length uc) nd):=hsl;have X2:Hid (Below w0.heap.size w0 w2):=X1.o.trans (hb2.mono hs1);have B2:Hid (Below gb w w2):=B1.o.trans (hb2.mono oo);have hs2:=X2.o.size;clear hsl hb2 Ob;have hpp:=Hz.o;rw[JX]at hpp;simp only[Bool.and_eq_true,decide_eq_true_eq]at hpp;have hsg:=Sj (s:=s) oo;rw[Hnd.o]at hsg;have HRR:Hid (XW p (.slice pa p.props.length pc) (.slice fa p.au.length fc) (.slice aa p.ats.length ac) (rules true nd) (oQ p (depth nd) true nd) w):=Oc p (.slice pa p.props.length pc) (.slice fa p.au.length fc) (.slice aa p.ats.length ac) Si.o hpp.1.1.1.1.2 (depth nd) true nd B w DY.o NQ.o hsg.1 nl hsg.2;clear hpp hsg
    have TT:Hid (∀wx,Below w2.heap.size w2 wx->Qa wx gb (.string p.root) (.slice pa p.props.length pc) (.slice fa p.au.length fc) (.slice aa p.ats.length ac) (.bool p.aO) (.bool p.texts)):=fun wx hb=>Q0.o.below (X2.o.trans (hb.mono hs2)) hlt0;have S2:Hid (Below w2.heap.size w2 w2.drew):=(Below.refl _ _).drew;go_wp2_with fail;refine wp_region_any (by kernel_rfl) ?_;change wpAny _ _ _ _ _ _ _ (World.drew _);refine wpAny_of_held (S:=fun wq=>Below w2.heap.size w2 wq) _ _ _ _ ?_;refine bY 0 rfl S2.o (by intro w hSw;obtain⟨q0,q1,q2,q3,q4,q5⟩:=(TT.o _ hSw).cs;exact gs) ?_;refine bY 2 rfl S2.o (by intro w hSw;obtain⟨q0,q1,q2,q3,q4,q5⟩:=(TT.o _ hSw).cs;exact gs) ?_;refine jh 1 fun K hK=>?_;go_simp;refine(Rz w2.heap.size true nd _ w2.drew (HSL.o.below S2.o nl) nl).mono ?_;rintro e w3 ⟨ru,rfl,hrg,hb3⟩
    obtain⟨ra,rc,rfl⟩:=hrg.form;have X3:Hid (Below w2.heap.size w2 w3):=S2.o.trans hb3;have HRG:Hid (SG GI 5 (fun b=>b<w3.heap.size) w3 (.slice ra (rules true nd).length rc) (rules true nd)):=hrg;clear hb3 hrg;refine hK.o _ _ X3.o (fun _=>?_);clear hK K;have hg2:gb<=w2.heap.size:=oo;have CR:=HRR.o (.slice ra (rules true nd).length rc) w3 (by rw[RF.o];exact B2.o.trans (X3.o.mono hg2)) HRG.o;unfold dD at CR;obtain⟨rl,Hrl⟩:∃rl,Hid ((rules true nd).length=rl):=⟨_,hid rfl⟩;rw[Hrl.o]at CR⊢;obtain⟨ro,Hro⟩:∃ro,Hid (oQ p (depth nd) true nd=ro):=⟨_,hid rfl⟩;rw[Hro.o]at CR HV;have CR':Hid (Calls prog 27 #[.slice ra rl rc,.agg #[.string p.root,.slice pa p.props.length pc,.slice fa p.au.length fc,.slice aa p.ats.length ac,.bool p.aO,.bool p.texts]] w3 fun e w'=>e=.returned (.string ro)/\Below w3.heap.size w3 w'):=CR;clear CR
    refine jh 3 fun K hK=>?_;go_simp;refine CR'.o.mono ?_;rintro e w4 ⟨rfl,hb4⟩;have X4:Hid (Below w2.heap.size w2 w4):=X3.o.trans (hb4.mono X3.o.size);have B4:Hid (Below gb w w4):=B2.o.trans (X4.o.mono hg2);clear hb4 CR';refine hK.o _ _ X4.o (fun _=>?_);clear hK K;refine jh 4 fun K hK=>?_;go_simp;refine hK.o _ _ (X4.o) (fun _=>?_);clear hK K;refine jh 5 fun K hK=>?_;go_simp;refine hK.o _ _ (X4.o) (fun _=>?_);clear hK K;refine wpAnyH_done (by kernel_rfl) ?_ _;go_wp2_with fail;go_ret2
    rw[HV.o,RF.o];exact⟨rfl,B4.o⟩
   .simp only[if_neg hd]at UZ;have HV:Hid (jM s p=(aA,2)):=Dl Hz.o H6.o (by rw[Hnd.o];exact hd);have Ob:=hid UZ;have HD:Hid (¬depth nd<=8):=hd;clear UZ hd;go_wp2_with fail;refine Ob.o.mono ?_;rintro e w2 ⟨rfl,hb2⟩;have B2:Hid (Below gb w w2):=B1.o.trans (hb2.mono oo);clear hb2 Ob HD;go_wp2_with fail;go_ret2
    rw[HV.o,RF.o];exact⟨rfl,B2.o⟩
end Go.Proofs.YtlliliddljkbfaaGreatDoor
