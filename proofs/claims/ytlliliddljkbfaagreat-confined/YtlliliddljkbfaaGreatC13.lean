import Derived.Test.YtlliliddljkbfaaGreatC12
set_option maxHeartbeats 64000000
set_option maxRecDepth 100000
namespace Go.Proofs.YtlliliddljkbfaaGreat
open Go.Proofs.Tryz (prog)
open Go.RowKit Sp
section
attribute [local go_sem] bI bJ aX aY
theorem RS(zs:List BY)(v:Av)(g:Nat)(f:BY->Bool)(S:Nat->Prop)(w:WD)(h:SG eX 1 S w v zs)
  (hg:∀(args:Array Av) (w:WD),(callFunc g args).run prog w=.ok (.enter g args) w)
  (hf:∀(x:BY) (w:WD),x.size<=4194304->Calls prog g (#[.string x] ++ #[]) w fun e w'=>e=.returned (.bool (f x))/\w'=w):
  Calls prog 91 #[v,.func (.func g) #[] #[]] w fun e w'=>∃i:Int,e=.returned (.int .i64 i)/\decide (0<=i)=zs.any f/\w'=w:=by
 have hl:=h.len;have HS:=hid h;have HF:=hid hf;obtain⟨a,cap,rfl⟩:=h.form;clear h hf;go_in;go_wp2_with fail;go_loopg[8] zs.length (fun gg v8 wr=>∃k:Nat,k+gg=zs.length/\v8=.int .i64 (k:Int)/\Aside (zs.any f=(zs.drop k).any f/\wr=w));case atStart=>exact⟨0,oo,rfl,by simp,rfl⟩
 case round=>
  obtain⟨k,hk,rfl,hA⟩:=hrel;have HA:=hid hA.o.1;obtain rfl:=hA.o.2;clear hA;by_cases hlt:k<zs.length
  .have h1:(k:Int)<(zs.length:Int):=oo;obtain⟨g',o,rfl,hL,hcap⟩:=HS.o.here (by rintro rfl;simp at hlt);obtain⟨_,c0,hxs⟩:=hL.str (i:=k) hlt;have HA2:Hid (zs.any f=(f zs[k]||(zs.drop (k+1)).any f)):=by show _=_;rw[HA.o,List.drop_eq_getElem_cons hlt];rfl
   generalize zs[k]=x at *;have HC:=HF.o x wr hxs;obtain⟨z,Hz⟩:=Nm (f x);rw[Hz.o]at HC HA2;have HC':Hid (Calls prog g (#[.string x] ++ #[]) wr fun e w'=>e=.returned (.bool z)/\w'=wr):=HC;clear HC hL;go_wp2_with fail;refine HC'.o.mono ?_;rintro e wq ⟨rfl,hwq⟩;rw[hwq];clear hwq;cases z
   .go_wp2_with fail;go_roundg(gk-1);case measure=>omega
    case rel=>exact⟨k+1,oo,by congr 1,HA2.o,rfl⟩
   .have HV:Hid (zs.any f=true):=HA2.o;go_wp2_with fail;go_ret;exact⟨_,rfl,by rw[HV.o];exact decide_eq_true oo,rfl⟩
  .have h1:(zs.length:Int)<=(k:Int):=oo;have HV:Hid (zs.any f=false):=by show _=_;rw[HA.o,List.drop_of_length_le oo];rfl
   go_wp2_with fail;go_ret;exact⟨_,rfl,by rw[HV.o];rfl,rfl⟩
theorem rM(zs:List BY)(v:Av)(g:Nat)(f:BY->Bool)(S:Nat->Prop)(w:WD)(h:SG eX 1 S w v zs)
  (hg:∀(args:Array Av) (w:WD),(callFunc g args).run prog w=.ok (.enter g args) w)
  (hf:∀(x:BY) (w:WD),x.size<=4194304->Calls prog g (#[.string x] ++ #[]) w fun e w'=>e=.returned (.bool (f x))/\w'=w):
  Calls prog 59 #[v,.func (.func g) #[] #[]] w fun e w'=>e=.returned (.bool (zs.any f))/\w'=w:=by
 have HI:Hid (Calls prog 91 #[v,.func (.func g) #[] #[]] w fun e w'=>∃i:Int,e=.returned (.int .i64 i)/\decide (0<=i)=zs.any f/\w'=w):=RS zs v g f S w h hg hf;obtain⟨a,cap,rfl⟩:=h.form;clear h hf hg;go_in;go_wp2_with fail;refine HI.o.mono ?_;rintro e wq ⟨i,rfl,hi,hwq⟩;rw[hwq];have HV:=hid hi;clear hi hwq;go_wp2_with fail;go_ret;exact⟨aC HV.o,rfl⟩
theorem acY(s:BY)(w:WD)(hs:s.size<=4194304):Calls prog 106 #[.string s] w fun e w'=>e=.returned (.bool (allB jh s&&decide (s.size<=12)))/\w'=w:=by
 have HO:Hid (Calls prog 170 #[.string s,.func (.func 171) #[] #[]] w fun e w'=>e=.returned (.bool (allB jh s))/\w'=w):=acX s 171 jh w hs (fun _ _=>rfl) (fun c w=>by rw[<-ain];exact Nl _ w)
 by_cases h12:s.size<=12
 .have h1:(s.size:Int)<=12:=oo;have HV:Hid ((allB jh s&&decide (s.size<=12))=allB jh s):=by show _=_;rw[decide_eq_true h12];exact Bool.and_true _
  clear h12;rw[HV.o];generalize allB jh s=z at *;go_in;go_wp2_with fail;refine HO.o.mono ?_;rintro e wq ⟨rfl,hwq⟩;rw[hwq];go_wp2_with fail;go_ret;exact⟨rfl,rfl⟩
 .have h1:(12:Int)<(s.size:Int):=oo;have HV:Hid ((allB jh s&&decide (s.size<=12))=false):=by show _=_;rw[decide_eq_false h12];exact Bool.and_false _
  clear h12 HO;rw[HV.o];go_in;go_wp2_with fail;go_ret;exact⟨rfl,rfl⟩
def Jd(s:BY):Bool:=!gK s
theorem Wj(s:BY)(w:WD)(hs:s.size<=4194304):Calls prog 172 #[.string s] w fun e w'=>e=.returned (.bool (Jd s))/\w'=w:=by
 have HO:Hid (Calls prog 170 #[.string s,.func (.func 234) #[] #[]] w fun e w'=>e=.returned (.bool (allB (fun c=>jh c||c==45) s))/\w'=w):=acX s 234 (fun c=>jh c||c==45) w hs (fun _ _=>rfl) (fun c w=>by rw[<-alk];exact F7 _ w)
 have HN:Hid (Jd s = !(allB (fun c=>jh c||c==45) s&&decide (1<=s.size)&&decide (s.size<=30))):=rfl;by_cases he:s.toList=[]
 .have hz:s.size=0:=by rw[fC]at he;rw[<-qJ,he];rfl
  have HV:Hid (Jd s=true):=by show _=_;rw[HN.o,decide_eq_false (show ¬1<=s.size by omega)];simp
  clear hz HO HN;go_in;go_wp2_with fail;go_ret;exact⟨aC HV.o.symm,rfl⟩
 .have hz:1<=s.size:=by
   rcases Nat.eq_zero_or_pos s.size with h|h
   .exact absurd (by rw[fC];exact List.eq_nil_of_length_eq_zero (by rw[qJ];exact h)) he
   .exact h
  have hie:s.toList.isEmpty=false:=by cases hq:s.toList with|nil=>exact absurd hq he|cons _ _=>rfl
  by_cases h30:s.size<=30
  .have h1:(s.size:Int)<=30:=oo;have HV:Hid (Jd s = !(allB (fun c=>jh c||c==45) s)):=by show _=_;rw[HN.o,decide_eq_true hz,decide_eq_true h30];simp
   clear h30 hz HN;generalize allB (fun c=>jh c||c==45) s=z at *;go_in;go_wp2_with fail;refine HO.o.mono ?_;rintro e wq ⟨rfl,hwq⟩;rw[hwq];go_wp2_with fail;go_ret;exact⟨aC (by rw[HV.o,decide_eq_false oo];rfl),rfl⟩
  .have h1:(30:Int)<(s.size:Int):=oo;have HV:Hid (Jd s=true):=by show _=_;rw[HN.o,decide_eq_false h30];simp
   clear h30 hz HN HO;go_in;go_wp2_with fail;go_ret;exact⟨aC HV.o.symm,rfl⟩
def wP(s:BY):Bool:=pk s 0==45
theorem acZ(s:BY):Lib.hasPrefix s.data.toList [45]=wP s:=by have h:=xI s [45] 0;rw[List.drop_zero]at h;unfold Lib.hasPrefix;rw[h];show(pk s 0==45&&true)=_;rw[Bool.and_true];rfl
theorem Ew(s:BY)(w:WD):Calls prog 108 #[.string s] w fun e w'=>e=.returned (.bool (wP s))/\w'=w:=by have HV:Hid (Lib.hasPrefix s.data.toList [45]=wP s):=acZ s;go_in;go_wp2_with fail;refine pmb (Tryz.strings_HasPrefix s ⟨#[45]⟩ w) fun wq hwq=>?_;rw[hwq];go_wp2_with fail;go_ret;exact⟨aC HV.o,rfl⟩
def AU(zs:List BY):Bool:=decide (zs.length<=20)&&zs.all gK
theorem ags(zs:List BY):(!zs.any Jd)=zs.all gK:=by
 rw[List.not_any_eq_all_not];congr 1
 funext s
 unfold Jd;exact Bool.not_not _
theorem AV(S:Nat->Prop)(zs:List BY)(v:Av)(w:WD)(h:SG eX 1 S w v zs):Calls prog 107 #[v] w fun e w'=>e=.returned (.bool (AU zs))/\w'=w:=by
 have hl:=h.len;have HC:Hid (Calls prog 59 #[v,.func (.func 172) #[] #[]] w fun e w'=>e=.returned (.bool (zs.any Jd))/\w'=w):=rM zs v 172 Jd S w h (fun _ _=>rfl) (fun x w hx=>Wj x w hx)
 obtain⟨a,cap,rfl⟩:=h.form;clear h;by_cases h20:zs.length<=20
 .have h1:(zs.length:Int)<=20:=oo;have HV:Hid (AU zs = !zs.any Jd):=by show _=_;unfold AU;rw[decide_eq_true h20,ags];rfl
  clear h20;generalize zs.any Jd=z at *;go_in;go_wp2_with fail;refine HC.o.mono ?_;rintro e wq ⟨rfl,hwq⟩;rw[hwq];go_wp2_with fail;go_ret;exact⟨aC HV.o.symm,rfl⟩
 .have h1:(20:Int)<(zs.length:Int):=oo;have HV:Hid (AU zs=false):=by show _=_;unfold AU;rw[decide_eq_false h20];rfl
  clear h20 HC;go_in;go_wp2_with fail;go_ret;exact⟨aC HV.o.symm,rfl⟩
end
section
def SB(w:WD)(g:Nat)(a b c d e f:Av):Prop:=w.heap[g]?=some (.cells #[a,b,c,d,e,f] 278 (0,0))
section
variable {w w':WD} {g:Nat} {a b c d e f:Av}
end
def amJ(w:WD)(g:Nat)(a b c d e f:Av):WD:=(((((w.setCell ⟨g,0,none⟩ a).setCell ⟨g,1,none⟩ b).setCell ⟨g,2,none⟩ c).setCell ⟨g,3,none⟩ d).setCell ⟨g,4,none⟩ e).setCell ⟨g,5,none⟩ f
theorem Je{B g:Nat}{x w:WD}(h:Below B x w)(hg:B<=g)(a b c d e f:Av):Below B x (amJ w g a b c d e f):=(((((h.setCell hg a).setCell hg b).setCell hg c).setCell hg d).setCell hg e).setCell hg f
end
section
attribute [local go_sem] bI bJ aX aY
theorem agt(zs:List BY):zs.all (fun s=>gK s&&!(pk s 0==45))=(zs.all gK&&!zs.any wP):=by
 induction zs with
 |nil=>rfl
 |cons z r ih=>rw[List.all_cons,List.all_cons,List.any_cons,ih];show((gK z&&!wP z)&&_)=_;cases gK z<;>cases wP z<;>cases r.all gK<;>rfl
theorem YM(p:aF):qp p=((allB jh p.root&&decide (p.root.size<=12))&&AU p.props&&!p.props.any wP&&AU p.aJ&&AU p.ats):=by unfold qp AU;rw[agt];show(allB jh p.root&&decide (p.root.size<=12)&&(decide (p.props.length<=20)&&(p.props.all gK&&!p.props.any wP))&&_&&_)=_;cases allB jh p.root&&decide (p.root.size<=12)<;>cases decide (p.props.length<=20)<;>cases p.props.all gK<;>cases p.props.any wP<;>rfl
def Qa(w:WD)(b:Nat)(x0 x1 x2 x3 x4 x5:Av):Prop:=w.heap[b]?=some (.cells #[x0,x1,x2,x3,x4,x5] 41 (0,0))
theorem Qa.cs{w:WD}{b:Nat}{x0 x1 x2 x3 x4 x5:Av}(h:Qa w b x0 x1 x2 x3 x4 x5):w.cell? ⟨b,0,none⟩=some x0/\w.cell? ⟨b,1,none⟩=some x1/\w.cell? ⟨b,2,none⟩=some x2/\w.cell? ⟨b,3,none⟩=some x3/\w.cell? ⟨b,4,none⟩=some x4/\w.cell? ⟨b,5,none⟩=some x5:=by have h':w.heap[b]?=_:=h;refine⟨?_,?_,?_,?_,?_,?_⟩<;>(unfold World.cell?;rw[h'];rfl)
theorem Qa.lt{w:WD}{b:Nat}{x0 x1 x2 x3 x4 x5:Av}(h:Qa w b x0 x1 x2 x3 x4 x5):b<w.heap.size:=(Ay h)
theorem Qa.new(w:WD)(x0 x1 x2 x3 x4 x5:Av):Qa (w.alloc (.cells #[x0,x1,x2,x3,x4,x5] 41)) w.heap.size x0 x1 x2 x3 x4 x5:=heap_alloc_new w _
theorem Qa.nb(p:aF)(pa fa aa:Option Addr)(pc fc ac:Nat)(w:WD):Hid (Below w.heap.size w (w.alloc (.cells #[.string p.root,.slice pa p.props.length pc,.slice fa p.aJ.length fc,.slice aa p.ats.length ac,.bool p.aU,.bool p.texts] 41)))/\Hid (Qa (w.alloc (.cells #[.string p.root,.slice pa p.props.length pc,.slice fa p.aJ.length fc,.slice aa p.ats.length ac,.bool p.aU,.bool p.texts] 41)) w.heap.size (.string p.root) (.slice pa p.props.length pc) (.slice fa p.aJ.length fc) (.slice aa p.ats.length ac) (.bool p.aU) (.bool p.texts)):=⟨Ax.alloc nl _,Qa.new _ _ _ _ _ _ _⟩
theorem Qa.below{w w':WD}{b g:Nat}{x0 x1 x2 x3 x4 x5:Av}(h:Qa w b x0 x1 x2 x3 x4 x5)(hb:Below g w w')(hg:b<g):Qa w' b x0 x1 x2 x3 x4 x5:=by show _=_;rw[hb.block b hg];exact h
theorem Wp(B:Nat)(p:aF)(pv fv av:Av)(w:WD)(h:jK B w p pv fv av)(hr:p.root.size<=4194304):
  Calls prog 66 #[dF p pv fv av] w fun e w'=>e=.returned (.bool (qp p))/\Below w.heap.size w w':=by
 obtain⟨pa,pc,rfl⟩:=h.props.form;obtain⟨fa,fc,rfl⟩:=h.aJ.form;obtain⟨aa,ac,rfl⟩:=h.ats.form;obtain⟨B0,Q0⟩:=Qa.nb p pa fa aa pc fc ac w;have HP:=hid (h.below B0.o h.lt);have HE:Hid (qp p=((allB jh p.root&&decide (p.root.size<=12))&&AU p.props&&!p.props.any wP&&AU p.aJ&&AU p.ats)):=YM p;clear h;unfold dF;go_in;go_upto_region 1 with fail
 generalize w.alloc (.cells #[.string p.root,.slice pa p.props.length pc,.slice fa p.aJ.length fc,.slice aa p.ats.length ac,.bool p.aU,.bool p.texts] 41)=w0 at *;obtain⟨q0,q1,q2,q3,q4,q5⟩:=Q0.o.cs;have H1:=acY p.root w0 hr;have H2:=AV _ p.props _ w0 HP.o.props;have H3:=rM p.props _ 108 wP _ w0 HP.o.props (fun _ _=>rfl) (fun x w _=>Ew x w);have H4:=AV _ p.aJ _ w0 HP.o.aJ;have H5:=AV _ p.ats _ w0 HP.o.ats;obtain⟨z1,Z1⟩:=Nm ((allB jh p.root&&decide (p.root.size<=12)));obtain⟨z2,Z2⟩:=Nm (AU p.props);obtain⟨z3,Z3⟩:=Nm (p.props.any wP);obtain⟨z4,Z4⟩:=Nm (AU p.aJ);obtain⟨z5,Z5⟩:=Nm (AU p.ats);rw[Z1.o]at H1;rw[Z2.o]at H2;rw[Z3.o]at H3;rw[Z4.o]at H4
 rw[Z5.o]at H5;have HE2:Hid (qp p=(z1&&z2&&!z3&&z4&&z5)):=by show _=_;rw[HE.o,Z1.o,Z2.o,Z3.o,Z4.o,Z5.o]
 have C1:=hid H1;have C2:=hid H2;have C3:=hid H3;have C4:=hid H4;have C5:=hid H5;clear H1 H2 H3 H4 H5 HE HP;go_wp2_with fail;refine C1.o.mono ?_;rintro e wq ⟨rfl,hwq⟩;rw[hwq];clear hwq;cases z1
 .have HV:Hid (qp p=false):=HE2.o;go_wp2_with fail;go_ret;exact⟨aC HV.o.symm,B0.o⟩
 go_wp2_with fail;refine C2.o.mono ?_;rintro e wq ⟨rfl,hwq⟩;rw[hwq];clear hwq;cases z2
 .have HV:Hid (qp p=false):=HE2.o;go_wp2_with fail;go_ret;exact⟨aC HV.o.symm,B0.o⟩
 go_wp2_with fail;refine C3.o.mono ?_;rintro e wq ⟨rfl,hwq⟩;rw[hwq];clear hwq;cases z3
 .go_wp2_with fail;refine C4.o.mono ?_;rintro e wq ⟨rfl,hwq⟩;rw[hwq];clear hwq;cases z4
  .have HV:Hid (qp p=false):=HE2.o;go_wp2_with fail;go_ret;exact⟨aC HV.o.symm,B0.o⟩
  go_wp2_with fail;refine C5.o.mono ?_;rintro e wq ⟨rfl,hwq⟩;rw[hwq];clear hwq;have HV:Hid (qp p=z5):=HE2.o;go_wp2_with fail;go_ret;exact⟨aC HV.o.symm,B0.o⟩
 .have HV:Hid (qp p=false):=HE2.o;go_wp2_with fail;go_ret;exact⟨aC HV.o.symm,B0.o⟩
theorem Q6.fz{w:WD}{b:Nat}{x0 x1 x2 x3 x4 x5:Av}(h:Q6 w b x0 x1 x2 x3 x4 x5)(o:Nat):w.frozen? ⟨b,o,none⟩=false:=by have h':w.heap[b]?=_:=h;unfold World.frozen?;rw[h'];simp
theorem agu(B:Nat)(p:aF)(pv fv av:Av)(w:WD)(h:jK B w p pv fv av)(hr:p.root.size<=4194304):
  Calls prog 39 #[dF p pv fv av] w fun e w'=>(∃u,e=.returned (.tuple #[u,.bool (qp p)])/\(qp p=true->u=dF p pv fv av)/\(qp p=false->u=.agg #[.string ⟨#[]⟩,.slice none 0 0,.slice none 0 0,.slice none 0 0,.bool false,.bool false]))/\Below w.heap.size w w':=by
 obtain⟨pa,pc,rfl⟩:=h.props.form;obtain⟨fa,fc,rfl⟩:=h.aJ.form;obtain⟨aa,ac,rfl⟩:=h.ats.form;have hB:=h.lt;obtain⟨B0,Q0⟩:=Qa.nb p pa fa aa pc fc ac w;have wX:=hid (h.below B0.o hB);have B1:Hid (Below w.heap.size w ((w.alloc (.cells #[.string p.root,.slice pa p.props.length pc,.slice fa p.aJ.length fc,.slice aa p.ats.length ac,.bool p.aU,.bool p.texts] 41)).alloc (.cells #[.string ⟨#[]⟩,.slice none 0 0,.slice none 0 0,.slice none 0 0,.bool false,.bool false] 82))):=B0.o.alloc Ab _
 have X1:Hid (Below (w.alloc (.cells #[.string p.root,.slice pa p.props.length pc,.slice fa p.aJ.length fc,.slice aa p.ats.length ac,.bool p.aU,.bool p.texts] 41)).heap.size (w.alloc (.cells #[.string p.root,.slice pa p.props.length pc,.slice fa p.aJ.length fc,.slice aa p.ats.length ac,.bool p.aU,.bool p.texts] 41)) ((w.alloc (.cells #[.string p.root,.slice pa p.props.length pc,.slice fa p.aJ.length fc,.slice aa p.ats.length ac,.bool p.aU,.bool p.texts] 41)).alloc (.cells #[.string ⟨#[]⟩,.slice none 0 0,.slice none 0 0,.slice none 0 0,.bool false,.bool false] 82))):=Ax.alloc nl _
 have Q1:=hid (Q0.o.below X1.o Q0.o.lt);have HP1:=hid (wX.o.below X1.o wX.o.lt)
 have R1:Hid (Q6 ((w.alloc (.cells #[.string p.root,.slice pa p.props.length pc,.slice fa p.aJ.length fc,.slice aa p.ats.length ac,.bool p.aU,.bool p.texts] 41)).alloc (.cells #[.string ⟨#[]⟩,.slice none 0 0,.slice none 0 0,.slice none 0 0,.bool false,.bool false] 82)) (w.heap.size+1) (.string ⟨#[]⟩) (.slice none 0 0) (.slice none 0 0) (.slice none 0 0) (.bool false) (.bool false)):=by have:=Q6.new (w.alloc (.cells #[.string p.root,.slice pa p.props.length pc,.slice fa p.aJ.length fc,.slice aa p.ats.length ac,.bool p.aU,.bool p.texts] 41)) (.string ⟨#[]⟩) (.slice none 0 0) (.slice none 0 0) (.slice none 0 0) (.bool false) (.bool false);rw[show(w.alloc (.cells #[.string p.root,.slice pa p.props.length pc,.slice fa p.aJ.length fc,.slice aa p.ats.length ac,.bool p.aU,.bool p.texts] 41)).heap.size=w.heap.size+1 by simp]at this;exact this
 clear h Q0 wX X1;unfold dF;go_in;go_upto_region 1 with fail
 generalize(w.alloc (.cells #[.string p.root,.slice pa p.props.length pc,.slice fa p.aJ.length fc,.slice aa p.ats.length ac,.bool p.aU,.bool p.texts] 41)).alloc (.cells #[.string ⟨#[]⟩,.slice none 0 0,.slice none 0 0,.slice none 0 0,.bool false,.bool false] 82)=w1 at *;obtain⟨q0,q1,q2,q3,q4,q5⟩:=Q1.o.cs;have hs1:=B1.o.size;have HC:=Wp B p _ _ _ w1 HP1.o hr;unfold dF at HC;obtain⟨z,Hz⟩:=Nm (qp p);rw[Hz.o]at HC;have HC':Hid (Calls prog 66 #[.agg #[.string p.root,.slice pa p.props.length pc,.slice fa p.aJ.length fc,.slice aa p.ats.length ac,.bool p.aU,.bool p.texts]] w1 fun e w'=>e=.returned (.bool z)/\Below w1.heap.size w1 w'):=HC;clear HC HP1;go_wp2_with fail;refine HC'.o.mono ?_;rintro e w2 ⟨rfl,hb2⟩;have B2:=hid (B1.o.trans (hb2.mono hs1))
 have R2:=hid (R1.o.below hb2 R1.o.lt);have Q2:=hid (Q1.o.below hb2 Q1.o.lt);clear hb2 HC' q0 q1 q2 q3 q4 q5 Q1 R1;obtain⟨q0,q1,q2,q3,q4,q5⟩:=Q2.o.cs;obtain⟨r0,r1,r2,r3,r4,r5⟩:=R2.o.cs;have z0:=R2.o.fz 0;have z1:=R2.o.fz 1;have z2:=R2.o.fz 2;have z3:=R2.o.fz 3;have z4:=R2.o.fz 4;have z5:=R2.o.fz 5;cases z
 .go_wp2_with fail;refine bodyPost_ret (v:=.tuple #[.agg #[.string ⟨#[]⟩,.slice none 0 0,.slice none 0 0,.slice none 0 0,.bool false,.bool false],.bool false]) (by simp[results,Tryz.results39,go_sem,r0,r1,r2,r3,r4,r5]) rfl ?_;refine⟨⟨_,by rw[Hz.o],(by rw[Hz.o];intro h;cases h),fun _=>rfl⟩,?_⟩;exact Je B2.o oo _ _ _ _ _ _
 .go_wp2_with fail;refine bodyPost_ret (v:=.tuple #[.agg #[.string p.root,.slice pa p.props.length pc,.slice fa p.aJ.length fc,.slice aa p.ats.length ac,.bool p.aU,.bool p.texts],.bool true]) (by simp[results,Tryz.results39,go_sem,r0,r1,r2,r3,r4,r5]) rfl ?_;refine⟨⟨_,by rw[Hz.o],fun _=>rfl,by rw[Hz.o];intro h;cases h⟩,?_⟩;exact Je B2.o oo _ _ _ _ _ _
end
def yg(h b:BY):BY:=if b=aA then aA else h++(b1 123++(b++b1 125))
theorem RU(h b:BY)(w:WD)(hs:h.size+b.size<=1099511627770):Calls prog 118 #[.string h,.string b] w fun e w'=>e=.returned (.string (yg h b))/\Below w.heap.size w w':=by
 by_cases he:b.toList=[]
 .have hn:b=aA:=by
   have:=ay b [];rw[he]at this;exact of_decide_eq_true this.symm
  have HV:Hid (yg h b=aA):=by show _=_;unfold yg;rw[if_pos hn]
  clear hn;go_in;go_wp2_with fail;go_ret;exact⟨mg HV.o.symm,Ax⟩
 .have hn:¬b=aA:=fun e=>he (by rw[e,fC];rfl);have hib:(b.toList==[])=false:=by cases hq:b.toList with|nil=>exact absurd hq he|cons _ _=>rfl
  have HV:Hid (aG [h,⟨#[123]⟩,b,⟨#[125]⟩]=yg h b):=by show _=_;unfold yg;rw[if_neg hn];simp[aG,b1]
  clear hn;go_in;go_wp2_with fail;refine pmb (dQ [h,⟨#[123]⟩,b,⟨#[125]⟩] w.heap.size _ _ (row4 w h ⟨#[123]⟩ b ⟨#[125]⟩) Ab (by show h.size+(1+(b.size+(1+0)))<=_;omega)) fun w5 hb5=>?_;have B5:Hid (Below w.heap.size w w5):=(bf w _).trans (hb5.mono Ab);clear hb5;go_wp2_with fail;go_ret;exact⟨mg HV.o,B5.o⟩
theorem aaA(d:Dec):(jW d).size<=4*d.prop.size+dL d.val+20:=by
 have h1:=fQ d.prop;have h2:=jP d.val;have e:(b1 58).size=1:=rfl;have e2:(if d.imp=true then ZX else aA).size<=10:=by split<;>decide
 unfold jW;rw[ByteArray.size_append,ByteArray.size_append,ByteArray.size_append,e];omega
theorem LK(B:Nat)(d:Dec)(vv:Av)(w:WD)(h:Sl (fun b=>b<B) w vv d.val)(hB:B<=w.heap.size)(hp:d.prop.size<=4000000)(hz:dL d.val<=549755813888):
  Calls prog 194 #[.agg #[.string d.prop,vv,.bool d.imp]] w fun e w'=>e=.returned (.string (jW d))/\Below w.heap.size w w':=by
 obtain⟨va,vc,rfl⟩:=h.form;have B2:Hid (Below w.heap.size w (w.alloc (.cells #[.string d.prop,.slice va d.val.length vc,.bool d.imp] 181)).drew):=xJ _ _;have A2:Hid (Q3 181 (w.alloc (.cells #[.string d.prop,.slice va d.val.length vc,.bool d.imp] 181)).drew w.heap.size (.string d.prop) (.slice va d.val.length vc) (.bool d.imp)):=Q3.new _ _ _ _ _;have S2:=hid (h.below B2.o hB);clear h;obtain⟨nm,Aw⟩:=Nm (dP d.prop);obtain⟨tx,Gv⟩:=Nm (Sp.written d.val);have hs1:nm.size<=4*d.prop.size:=by rw[<-Aw.o];exact fQ _
 have hs3:tx.size<=dL d.val:=by rw[<-Gv.o];exact jP _
 cases hi:d.imp;focus
  rw[hi]at B2 A2 S2;have HV:Hid (aG [nm,⟨#[58]⟩,tx,⟨#[]⟩]=jW d):=by show _=_;unfold jW;rw[Aw.o,Gv.o,hi];simp[aG,b1,aA]
  go_in;go_wp2_with fail;refine wp_region_any Ao ?_;change wpAny _ _ _ _ _ _ _ (World.drew _);generalize(w.alloc (.cells #[.string d.prop,.slice va d.val.length vc,.bool false] 181)).drew=w2 at *;have hsz2:=B2.o.size;refine wpAny_of_held (S:=fun wx=>Q3 181 wx w.heap.size (.string d.prop) (.slice va d.val.length vc) (.bool false)) _ _ _ _ ?_;refine dH 0 rfl A2.o (by intro w hSw;obtain⟨a0,a1,a2⟩:=hSw.cs;exact gs) ?_;refine dH 1 rfl A2.o (by intro w hSw;obtain⟨a0,a1,a2⟩:=hSw.cs;exact gs) ?_;refine dH 3 rfl A2.o (by intro w hSw;obtain⟨a0,a1,a2⟩:=hSw.cs;exact gs) ?_;refine dH 4 rfl A2.o (by intro w hSw;obtain⟨a0,a1,a2⟩:=hSw.cs;exact gs) ?_
  refine dH 6 rfl A2.o (by intro w hSw;obtain⟨a0,a1,a2⟩:=hSw.cs;exact gs) ?_;refine iW 2 fun K hK=>?_;go_simp;refine(oW d.prop _ hp).mono ?_;rw[Aw.o];rintro e w3 ⟨rfl,hb3⟩;have B3:=hid (B2.o.trans (hb3.mono hsz2));have A4:=hid (A2.o.below hb3);have S3:=hid (S2.o.below hb3 oo);have hsz3:=B3.o.size;clear hb3 S2;refine hK.o _ _ A4.o (fun _=>?_);clear hK K;refine iW 5 fun K hK=>?_;go_simp;refine(uq d.val B _ w3 S3.o oo hz).mono ?_;rw[Gv.o];rintro e w4 ⟨rfl,hb4⟩;have B4:=hid (B3.o.trans (hb4.mono hsz3));have A5:=hid (A4.o.below hb4);have ajq:=B4.o.size;clear hb4
  refine hK.o _ _ A5.o (fun _=>?_);clear hK K;refine iW 7 fun K hK=>?_;go_simp;refine hK.o _ _ (A5.o.below (bf _ _)) (fun _=>?_);clear hK K;refine iW 8 fun K hK=>?_;go_simp;refine pmb (dQ [nm,⟨#[58]⟩,tx,⟨#[]⟩] w4.heap.size _ _ (row4 w4 nm ⟨#[58]⟩ tx ⟨#[]⟩) Ab (by show nm.size+(1+(tx.size+(0+0)))<=_;omega)) fun w5 hb5=>?_;have B5:Hid (Below w.heap.size w w5):=(B4.o.alloc ajq _).trans (hb5.mono An);have A6:Hid (Q3 181 w5 w.heap.size (.string d.prop) (.slice va d.val.length vc) (.bool false)):=(A5.o.below (bf _ _)).below hb5
 rotate_left;focus
  rw[hi]at B2 A2 S2;have HV:Hid (aG [nm,⟨#[58]⟩,tx,⟨#[33,105,109,112,111,114,116,97,110,116]⟩]=jW d):=by show _=_;unfold jW;rw[Aw.o,Gv.o,hi];simp[aG,b1,ZX]
  go_in;go_wp2_with fail;refine wp_region_any Ao ?_;change wpAny _ _ _ _ _ _ _ (World.drew _);generalize(w.alloc (.cells #[.string d.prop,.slice va d.val.length vc,.bool true] 181)).drew=w2 at *;have hsz2:=B2.o.size;refine wpAny_of_held (S:=fun wx=>Q3 181 wx w.heap.size (.string d.prop) (.slice va d.val.length vc) (.bool true)) _ _ _ _ ?_;refine dH 0 rfl A2.o (by intro w hSw;obtain⟨a0,a1,a2⟩:=hSw.cs;exact gs) ?_;refine dH 1 rfl A2.o (by intro w hSw;obtain⟨a0,a1,a2⟩:=hSw.cs;exact gs) ?_;refine dH 3 rfl A2.o (by intro w hSw;obtain⟨a0,a1,a2⟩:=hSw.cs;exact gs) ?_;refine dH 4 rfl A2.o (by intro w hSw;obtain⟨a0,a1,a2⟩:=hSw.cs;exact gs) ?_
  refine dH 6 rfl A2.o (by intro w hSw;obtain⟨a0,a1,a2⟩:=hSw.cs;exact gs) ?_;refine iW 2 fun K hK=>?_;go_simp;refine(oW d.prop _ hp).mono ?_;rw[Aw.o];rintro e w3 ⟨rfl,hb3⟩;have B3:=hid (B2.o.trans (hb3.mono hsz2));have A4:=hid (A2.o.below hb3);have S3:=hid (S2.o.below hb3 oo);have hsz3:=B3.o.size;clear hb3 S2;refine hK.o _ _ A4.o (fun _=>?_);clear hK K;refine iW 5 fun K hK=>?_;go_simp;refine(uq d.val B _ w3 S3.o oo hz).mono ?_;rw[Gv.o];rintro e w4 ⟨rfl,hb4⟩;have B4:=hid (B3.o.trans (hb4.mono hsz3));have A5:=hid (A4.o.below hb4);have ajq:=B4.o.size;clear hb4
  refine hK.o _ _ A5.o (fun _=>?_);clear hK K;refine iW 7 fun K hK=>?_;go_simp;refine hK.o _ _ (A5.o.below (bf _ _)) (fun _=>?_);clear hK K;refine iW 8 fun K hK=>?_;go_simp;refine pmb (dQ [nm,⟨#[58]⟩,tx,⟨#[33,105,109,112,111,114,116,97,110,116]⟩] w4.heap.size _ _ (row4 w4 nm ⟨#[58]⟩ tx _) Ab (by show nm.size+(1+(tx.size+(10+0)))<=_;omega)) fun w5 hb5=>?_;have B5:Hid (Below w.heap.size w w5):=(B4.o.alloc ajq _).trans (hb5.mono An);have A6:Hid (Q3 181 w5 w.heap.size (.string d.prop) (.slice va d.val.length vc) (.bool true)):=(A5.o.below (bf _ _)).below hb5
 rotate_left;all_goals
  clear hb5;refine hK.o _ _ A6.o (fun _=>?_);clear hK K;refine iW 9 fun K hK=>?_;go_simp;refine hK.o _ _ (A6.o) (fun _=>?_);clear hK K;refine wpAnyH_done Ao ?_ _;go_wp2_with fail;go_ret;exact⟨mg HV.o,B5.o⟩
theorem Jf(h:List Nd):(qE h).size<=dL h+1:=by
 unfold qE;split
 .show 0<=_;omega
 .have:=jP h;rw[ByteArray.size_append];show 1+_<=_;omega
theorem ac0(B:Nat)(nm:BY)(hd:List Nd)(v:Av)(w:WD)(h:Sl (fun b=>b<B) w v hd)(hB:B<=w.heap.size)(hn:nm.size<=4000000)(hz:dL hd<=549755813888):
  Calls prog 119 #[.string nm,v] w fun e w'=>e=.returned (.string (b1 64++(dP nm++qE hd)))/\Below w.heap.size w w':=by
 have hl:=h.len;have HS:=hid h;obtain⟨va,vc,rfl⟩:=h.form;clear h;obtain⟨o,Ho⟩:=Nm (dP nm);have hs1:o.size<=4*nm.size:=by rw[<-Ho.o];exact fQ _
 rw[Ho.o];obtain⟨q,Hq⟩:=Nm (aG [⟨#[64]⟩,o]);have HQ2:Hid (q=b1 64++o):=by show _=_;rw[<-Hq.o];simp[aG,b1]
 have hsq:q.size<=4*nm.size+1:=by rw[HQ2.o,ByteArray.size_append];show 1+o.size<=_;omega
 go_in;go_wp2_with fail;refine(oW nm _ hn).mono ?_;rw[Ho.o];rintro e w1 ⟨rfl,hb1⟩;have B1:=hid hb1;have hw1:=hb1.size;clear hb1;go_wp2_with fail;refine(dQ [⟨#[64]⟩,o] w1.heap.size _ _ (rw2 w1 ⟨#[64]⟩ o) Ab (by show 1+(o.size+0)<=_;omega)).mono ?_;rw[Hq.o];rintro e w2 ⟨rfl,hb2⟩;have B2:Hid (Below w.heap.size w w2):=(B1.o.alloc hw1 _).trans (hb2.mono An);have hw2:=B2.o.size;clear hb2;by_cases hz0:hd.length=0
 .obtain rfl:hd=[]:=List.eq_nil_of_length_eq_zero hz0;have HV:Hid (q=b1 64++(o++qE [])):=by show _=_;rw[HQ2.o];show _=b1 64++(o++aA);rw[mO]
  clear hz0;go_wp2_with fail;go_ret;exact⟨mg HV.o,B2.o⟩
 .have hne:(((hd.length:Nat):Int)==0)=false:=by rw[beq_eq_false_iff_ne];omega
  obtain⟨tx,Gv⟩:=Nm (Sp.written hd);have hs3:tx.size<=dL hd:=by rw[<-Gv.o];exact jP _
  have HV:Hid (aG [q,⟨#[32]⟩,tx]=b1 64++(o++qE hd)):=by show _=_;unfold qE;rw[if_neg (by rintro rfl;simp at hz0),Gv.o,HQ2.o];simp[aG,b1,ByteArray.append_assoc]
  clear hz0;go_wp2_with fail;refine(uq hd B _ w2 (HS.o.below B2.o hB) oo hz).mono ?_;rw[Gv.o];rintro e w4 ⟨rfl,hb4⟩;have B4:=hid (B2.o.trans (hb4.mono hw2));have hw4:=B4.o.size;clear hb4;go_wp2_with fail;refine pmb (dQ [q,⟨#[32]⟩,tx] w4.heap.size _ _ (row3 w4 q ⟨#[32]⟩ tx) Ab (by show q.size+(1+(tx.size+0))<=_;omega)) fun w5 hb5=>?_;have B5:Hid (Below w.heap.size w w5):=(B4.o.alloc hw4 _).trans (hb5.mono An);clear hb5;go_wp2_with fail;go_ret;exact⟨mg HV.o,B5.o⟩
theorem YN(ok:Nat->UInt8->Bool):∀(l:List UInt8) (i:Nat),(∀j (h:j<l.length),ok (i+j) l[j]=true)->BP ok i l=⟨l.toArray⟩
 |[],i,_=>rfl
 |c::r,i,h=>by
  have h0:=h 0 Ab;simp at h0;unfold BP;rw[if_pos h0,YN ok r (i+1) (fun j hj=>by have:=h (j+1) (by simpa using hj);simpa[Nat.add_assoc,Nat.add_comm 1 j]using this)];apply ByteArray.ext
  rw[ByteArray.data_append];simp[b1]
theorem aaB{s:BY}(h:allB jh s=true):dP s=s:=by
 unfold dP;rw[YN];intro j hj;have hc:jh s.data.toList[j]=true:=by unfold allB at h;rw[List.all_eq_true]at h;exact h _ (List.getElem_mem _)
 generalize s.data.toList[j]=c at *;unfold jh at hc;simp only[Bool.and_eq_true,decide_eq_true_eq]at hc;unfold dZ oV oU;rw[if_neg (by simp;omega),if_neg (by rintro rfl;simp at hc)];simp;omega
def jc(root:BY):BY:=if root=aA then aA else b1 46++(root++b1 32)
theorem Jg[bV](a:BY):∀(r:bY) (c:List Step),jX (b1 44) ((c::r).map (fun x=>a++dW x))=a++(dW c++qC a r)
 |[],c=>by show a++dW c=a++(dW c++qC a []);unfold qC;rw[mO]
 |d::q,c=>by
  have ih:=Jg a q d;show(a++dW c)++(b1 44++jX (b1 44) ((d::q).map (fun x=>a++dW x)))=_;rw[ih];conv=>rhs;unfold qC
  simp only[ByteArray.append_assoc]
theorem AX[bV](a:BY)(ss:bY):jX (b1 44) (ss.map (fun x=>a++dW x))=jV a ss:=by
 cases ss with
 |nil=>rfl
 |cons c r=>rw[Jg];unfold jV;rfl
theorem zf[bV](hd:jm)(a:BY):∀(ss:bY),CO ss->total (ss.map (fun x=>a++dW x))+ss.length<=zL ss+ss.length*a.size
 |[],_=>by simp[total]
 |c::r,hq=>by simp only[CO]at hq;have:=zf hd a r hq.2;have:=qL hd c hq.1;unfold zL;simp only[List.map_cons,total,List.length_cons,ByteArray.size_append,Nat.add_mul];omega
theorem RV[bV](f B:Nat)(root:BY)(ss:bY)(v:Av)(w:WD)(h:SG (AA (aQ f)) 1 (fun b=>b<B) w v ss)(hB:B<=w.heap.size)(hI:jD w)(hq:CO ss)(hz:zL ss<=274877906944)(hd:jm)(hr:allB jh root=true)(anr:root.size<=12):
  Calls prog 122 #[.string root,v] w fun e w'=>e=.returned (.string (jV (jc root) ss))/\Below w.heap.size w w':=by
 have hl:=h.len;have HS:=hid h;have HII:=hid hI;have HQ:=hid hq;have hF:Hid (Fair (fO (aQ f))):=fO.fair (aQ.fair f);obtain⟨a,cap,rfl⟩:=h.form;obtain⟨ah,Hah⟩:=Nm (jc root);have amK:ah.size<=14:=by
  rw[<-Hah.o];unfold jc;split
  .show 0<=14;omega
  .rw[ByteArray.size_append,ByteArray.size_append];show 1+(_+1)<=14;omega
 have Lm:Hid (jX (b1 44) (ss.map (fun x=>ah++dW x))=jV ah ss):=AX ah ss;have htot:=zf hd ah ss hq;have hml:ss.length*ah.size<=2097152*14:=Nat.mul_le_mul hl amK;have hnm:dP root=root:=aaB hr;rw[Hah.o];clear h hI hq hr;obtain⟨iS,wK⟩:=info_str;have HI:=hid wK;clear wK;go_in;go_upto_if 10 with fail;go_cut [5] (fun s5 wx=>s5=.string ah/\Below w.heap.size w wx);case first=>
  by_cases he:root.toList=[]
  .have hn:root=aA:=by
    have:=ay root [];rw[he]at this;exact of_decide_eq_true this.symm
   have HA:Hid (ah=⟨#[]⟩):=by show _=_;rw[<-Hah.o];unfold jc;rw[if_pos hn];rfl
   clear hn;have hie:root.toList.isEmpty=true:=by rw[he];rfl
   rw[hie,Bool.not_true];go_wp2_with fail;go_meet
   exact⟨by rw[HA.o],Ax⟩
  .have hn:¬root=aA:=fun e=>he (by rw[e,fC];rfl);have hie:root.toList.isEmpty=false:=by cases hq:root.toList with|nil=>exact absurd hq he|cons _ _=>rfl
   have HA:Hid (aG [⟨#[46]⟩,root,⟨#[32]⟩]=ah):=by show _=_;rw[<-Hah.o];unfold jc;rw[if_neg hn];simp[aG,b1]
   clear hn;have HNC:=oW root w oo;rw[hnm]at HNC;have HN:=hid HNC;clear HNC hnm;rw[hie,Bool.not_false];go_wp2_with fail;refine HN.o.mono ?_;rintro e w1 ⟨rfl,hb1⟩;have B1:=hid hb1;have hw1:=hb1.size;clear hb1;go_wp2_with fail;refine(dQ [⟨#[46]⟩,root,⟨#[32]⟩] w1.heap.size _ _ (row3 w1 ⟨#[46]⟩ root ⟨#[32]⟩) Ab (by show 1+(root.size+(1+0))<=_;omega)).mono ?_;rw[HA.o];rintro e w2 ⟨rfl,hb2⟩;have B2:Hid (Below w.heap.size w w2):=(B1.o.alloc hw1 _).trans (hb2.mono An);clear hb2;go_wp2_with fail;go_meet
   exact⟨rfl,B2.o⟩
 case rest=>
  obtain⟨rfl,hbc⟩:=hcut;have BC:=hid hbc;clear hbc hnm;go_wp2_with fail;go_loopg[6,17] ss.length (fun gg v6 v17 wr=>∃(u:Av) (i:Nat),u=v6/\v17=.int .i64 (i:Int)/\i+gg=ss.length/\Aside (wr.ownsRow w.heap.size 9 1 u i (((ss.take i).map (fun x=>ah++dW x)).map Value.string)/\Below w.heap.size w wr));case atStart=>exact⟨_,0,rfl,rfl,oo,World.ownsRow_nil _ _ _ _,BC.o⟩
  case round=>
   obtain⟨u,i,rfl,rfl,hi,hA⟩:=hrel;have O1:=hid hA.o.1;have B1:=hid hA.o.2;clear hA;have hsr:=B1.o.size;by_cases hlt:i<ss.length
   .have h1:(i:Int)<(ss.length:Int):=oo;obtain⟨g,o,rfl,hL,hcap⟩:=HS.o.here (by rintro rfl;simp at hlt);have hgB:g<B:=(hL.at ss g o i hlt).1;obtain⟨cv,d0,hcv⟩:=hL.cpx (i:=i) hlt;rw[<-B1.o.cell (p:=⟨g,_,none⟩) (show g<w.heap.size by omega)]at d0;have HT:Hid (ss.take (i+1)=ss.take i++[ss[i]]):=List.take_succ_eq_append_getElem hlt;have hqc:=VG ss i HQ.o hlt;have hzc:=VR ss i hlt;obtain⟨cx,hcx⟩:∃c,c=ss[i]:=⟨_,rfl⟩;rw[<-hcx]at hcv HT hqc hzc;obtain⟨ca,cc,rfl⟩:=hcv.form;have hxs:=qL hd cx hqc;have HW:Hid (Calls prog 191 #[.slice ca cx.length cc] wr fun e w'=>e=.returned (.string (dW cx))/\Below wr.heap.size wr w'):=
     ajc f B cx _ wr (hcv.below hF.o B1.o hB) oo (HII.o.below B1.o nl) hqc oo hd
    clear hL hcx hcv hqc;go_wp2_with fail;refine HW.o.mono ?_;obtain⟨x,Hx⟩:=Nm (dW cx);rw[Hx.o]at hxs;rw[Hx.o];rintro e w2 ⟨rfl,hb2⟩;have B2:=hid (B1.o.trans (hb2.mono hsr));have O2:Hid (w2.ownsRow w.heap.size 9 1 u i (((ss.take i).map (fun x=>ah++dW x)).map Value.string)):=aP O1.o fun r hr=>hb2.block r (O1.o.lt r hr).2;have hs2:=B2.o.size;clear hb2 HW d0;go_wp2_with fail;refine(dQ [ah,x] w2.heap.size _ _ (rw2 w2 ah x) Ab (by show ah.size+(x.size+0)<=_;omega)).mono ?_;obtain⟨y,Hy⟩:=Nm (aG [ah,x]);have HY:Hid (y=ah++x):=by show _=_;rw[<-Hy.o];simp[aG]
    rw[Hy.o];rintro e w3 ⟨rfl,hb3⟩;have X3:Hid (Below w2.heap.size w2 w3):=(bf w2 _).trans (hb3.mono Ab);have B3:=hid (B2.o.trans (X3.o.mono hs2));have O3:Hid (w3.ownsRow w.heap.size 9 1 u i (((ss.take i).map (fun x=>ah++dW x)).map Value.string)):=aP O2.o fun r hr=>X3.o.block r (O2.o.lt r hr).2;have hs3:=B3.o.size;clear hb3;obtain⟨zs,Hzs⟩:=Nm ((ss.take i).map (fun x=>ah++dW x));rw[Hzs.o]at O3;have hzl:zs.length=i:=by rw[<-Hzs.o,List.length_map,List.length_take];omega
    clear O1 O2;go_wp2_with(at_builtin;go_must(refine wpList_append_own _ rfl _ _ 26 rfl w.heap.size 9 iS (.string ⟨#[]⟩) 1 16 Tryz.underlying26 HI.o.1 HI.o.2.1 HI.o.2.2.1 HI.o.2.2.2 rfl oo u i (zs.map Value.string) rfl (O3.o.alloc _) ⟨w3.heap.size,0,none⟩ 1 1 [.string y] rfl rfl (cell_one_new _ _ _) (aT _) As oo An ?_));intro v4 w4 hown4 dS _;have O4:Hid (w4.ownsRow w.heap.size 9 1 v4 (i+1) (((ss.take (i+1)).map (fun x=>ah++dW x)).map Value.string)):=by show World.ownsRow _ _ _ _ _ _ _;rw[HT.o,List.map_append,List.map_append,List.map_cons,List.map_nil,Hx.o,<-HY.o,Hzs.o];exact hown4
    have B4:Hid (Below w.heap.size w w4):=(B3.o.alloc hs3 _).grown dS An (fun rr hr=>(O3.o.lt rr hr).1);clear hown4 dS;go_wp2_with fail;go_roundg(gk-1);case measure=>omega
    case rel=>exact⟨v4,i+1,rfl,by congr 1,oo,O4.o,B4.o⟩
   .have h1:(ss.length:Int)<=(i:Int):=oo;have hie:i=ss.length:=oo;subst hie;obtain⟨zs,Hzs⟩:=Nm (ss.map (fun x=>ah++dW x));have hzl:zs.length=ss.length:=by rw[<-Hzs.o,List.length_map]
    have O5:Hid (wr.ownsRow w.heap.size 9 1 u zs.length (zs.map Value.string)):=by have:=O1.o;rw[List.take_of_length_le nl,Hzs.o]at this;show World.ownsRow _ _ _ _ _ _ _;rw[hzl];exact this
    rw[Hzs.o]at htot Lm;go_wp2_with fail;refine(Ii (b1 44) zs w.heap.size u _ O5.o oo (by unfold acj;show _+zs.length*1<=_;omega)).mono ?_;rw[Lm.o];rintro e w5 ⟨rfl,hb5⟩;have B5:=hid (B1.o.trans (hb5.mono hsr));clear hb5;go_wp2_with fail;go_ret;exact⟨rfl,B5.o⟩
theorem jK.mono{B B':Nat}{w:WD}{p:aF}{pv fv av:Av}(h:jK B w p pv fv av)(hB:B<=B')(hw:B'<=w.heap.size):jK B' w p pv fv av:=⟨h.props.mono eX.fair hB,h.aJ.mono eX.fair hB,h.ats.mono eX.fair hB,hw⟩
def dz(d:Dec):Nat:=4*d.prop.size+dL d.val+24
def Qk:List Dec->Nat
 |[]=>0
 |d::r=>dz d+Qk r
theorem ac1:∀(l:List Dec) (i:Nat) (h:i<l.length),dz l[i]<=Qk l
 |d::r,0,_=>by unfold Qk;simp
 |d::r,i+1,h=>by have:=ac1 r i (by simpa using h);unfold Qk;simp only[List.getElem_cons_succ];omega
theorem Jh(p:aF):∀(l:List Dec),total ((l.filter (kR p)).map jW)+(l.filter (kR p)).length<=Qk l
 |[]=>by simp[total,Qk]
 |d::r=>by
  have ih:=Jh p r;have hs:=aaA d;unfold Qk dz;by_cases hk:kR p d=true
  .rw[List.filter_cons_of_pos hk];simp only[List.map_cons,total,List.length_cons];omega
  .rw[List.filter_cons_of_neg hk];omega
theorem RX{p:aF}{l:List Dec}{i:Nat}(h:i<l.length):((l.take (i+1)).filter (kR p)).map jW=((l.take i).filter (kR p)).map jW++(if kR p l[i]=true then [jW l[i]] else []):=by
 rw[List.take_succ_eq_append_getElem h,List.filter_append,List.map_append];congr 1
 by_cases hk:kR p l[i]=true
 .rw[List.filter_cons_of_pos hk,if_pos hk];rfl
 .rw[List.filter_cons_of_neg hk,if_neg hk];rfl
theorem LG.dec{S:Nat->Prop}{w:WD}{l:List Dec}{g o i:Nat}(h:LG vS 3 S w l g o)(hi:i<l.length):S g/\∃vv,w.cell? ⟨g,o+i*3,none⟩=some (.string l[i].prop)/\w.cell? ⟨g,o+i*3+1,none⟩=some vv/\w.cell? ⟨g,o+i*3+2,none⟩=some (.bool l[i].imp)/\Sl S w vv l[i].val/\l[i].prop.size<=4000000:=by obtain⟨h0,cs,⟨vv,rfl,hs,hp⟩,hc⟩:=h.at l g o i hi;refine⟨h0,vv,?_,hc 1 _ rfl,hc 2 _ rfl,hs,hp⟩;have:=hc 0 _ rfl;rwa[Nat.add_zero]at this
theorem Ji(B:Nat)(p:aF)(pv fv av:Av)(l:List Nd)(v:Av)(w:WD)(hP:jK B w p pv fv av)(h:Sl (fun b=>b<B) w v l)(hk:∀d∈decls l,OJ d.val)(hz:Qk (decls l)<=274877906944):
  Calls prog 124 #[dF p pv fv av,v] w fun e w'=>e=.returned (.string (tX p l))/\Below w.heap.size w w':=by
 have hB:=hP.lt;obtain⟨a,cap,rfl⟩:=h.form;obtain⟨pa,pc,rfl⟩:=hP.props.form;obtain⟨fa,fc,rfl⟩:=hP.aJ.form;obtain⟨aa,ac,rfl⟩:=hP.ats.form;obtain⟨ds,Hds⟩:=Nm (decls l);have HK:Hid (∀d∈ds,OJ d.val):=by rw[<-Hds.o];exact hk
 rw[Hds.o]at hz;have HBO:Hid (jX (b1 59) ((ds.filter (kR p)).map jW)=tX p l):=by show _=_;unfold tX;rw[Hds.o]
 have htot:=Jh p ds;clear hk;obtain⟨iS,wK⟩:=info_str;have HI:=hid wK;clear wK;obtain⟨B0,Q0⟩:=Q6.nb p pa fa aa pc fc ac w;have wX:=hid (hP.below B0.o hB);have HS0:=hid (h.below B0.o hB);clear hP h;unfold dF;go_in;go_upto_region 1 with fail
 have hsz0:=B0.o.size;have hlt0:=Q0.o.lt;generalize w.alloc (.cells #[.string p.root,.slice pa p.props.length pc,.slice fa p.aJ.length fc,.slice aa p.ats.length ac,.bool p.aU,.bool p.texts] 82)=w0 at *;obtain⟨rb,zV⟩:=Nm w.heap.size;rw[zV.o]at B0 Q0 hB hlt0 hsz0⊢;go_wp2_with fail;refine(IK B l _ w0 HS0.o oo).mono ?_;rw[Hds.o];rintro e w1 ⟨u1,rfl,hsg,hb1⟩;obtain⟨da,dc,rfl⟩:=hsg.form;have hdl:=hsg.len;have B1:=hid hb1;have Rn:=hid hsg;have hs1:=hb1.size;have Q1:=hid (Q0.o.below hb1 hlt0)
 have HP1:=hid ((wX.o.below hb1 oo).mono oo nl);clear hsg hb1 HS0 wX Q0;go_wp2_with fail;go_loopg[5,11] ds.length (fun gg v5 v11 wr=>∃(u:Av) (i:Nat),u=v5/\v11=.int .i64 (i:Int)/\i+gg=ds.length/\Aside (wr.ownsRow w1.heap.size 9 1 u (((ds.take i).filter (kR p)).map jW).length ((((ds.take i).filter (kR p)).map jW).map Value.string)/\Below w1.heap.size w1 wr));case atStart=>exact⟨_,0,rfl,rfl,oo,World.ownsRow_nil _ _ _ _,Ax⟩
 case round=>
  obtain⟨u,i,rfl,rfl,hi,hA⟩:=hrel;have O1:=hid hA.o.1;have BR:=hid hA.o.2;clear hA;have hsr:=BR.o.size;by_cases hlt:i<ds.length
  .have h1:(i:Int)<(ds.length:Int):=oo;obtain⟨g,o,rfl,hL,hcap⟩:=(Rn.o.below vS.fair BR.o nl).here (by rintro rfl;simp at hlt);obtain⟨hgB,vv,c0,c1,c2,hvv,hps⟩:=hL.dec (i:=i) hlt;have HT:Hid (((ds.take (i+1)).filter (kR p)).map jW=((ds.take i).filter (kR p)).map jW++(if kR p ds[i]=true then [jW ds[i]] else [])):=RX hlt;have hdz:=ac1 ds i hlt;have hkd:=HK.o ds[i] (List.getElem_mem _);obtain⟨d,hd⟩:∃d,d=ds[i]:=⟨_,rfl⟩;rw[<-hd]at c0 c2 hvv hps HT hdz hkd;have HVV:=hid hvv;have HKD:=hid hkd;have hvl:=hvv.len;obtain⟨va,vc,rfl⟩:=hvv.form;clear hL hd hvv hkd;have hzl:(((ds.take i).filter (kR p)).map jW).length<=i:=by rw[List.length_map];exact Nat.le_trans (List.length_filter_le _ _) (by rw[List.length_take];omega)
   obtain⟨ps,KP⟩:=Nm (((ds.take i).filter (kR p)).map jW);rw[KP.o]at O1 HT hzl;have D2:Hid (Q3 181 (wr.alloc (.cells #[.string d.prop,.slice va d.val.length vc,.bool d.imp] 181)) wr.heap.size (.string d.prop) (.slice va d.val.length vc) (.bool d.imp)):=Q3.new _ _ _ _ _;have X2:Hid (Below wr.heap.size wr (wr.alloc (.cells #[.string d.prop,.slice va d.val.length vc,.bool d.imp] 181))):=Ax.alloc nl _;go_upto_region 5 with fail
   generalize wr.alloc (.cells #[.string d.prop,.slice va d.val.length vc,.bool d.imp] 181)=w2 at *;obtain⟨gt,mV⟩:=Nm wr.heap.size;have D3:Hid (Q3 181 w2 gt (.string d.prop) (.slice va d.val.length vc) (.bool d.imp)):=by rw[<-mV.o];exact D2.o
   rw[mV.o];clear D2 c0 c1 c2;have B2:=hid (BR.o.trans (X2.o.mono hsr));have hs2:=X2.o.size;have O2:Hid (w2.ownsRow w1.heap.size 9 1 u ps.length (ps.map Value.string)):=aP O1.o fun r hr=>X2.o.block r (O1.o.lt r hr).2;obtain⟨a0,a1,a2⟩:=D3.o.cs;have Q2:=Q1.o.below B2.o oo;obtain⟨q0,q1,q2,q3,q4,q5⟩:=Q2.cs;clear Q2;have HDK:Hid (kR p d=((if custom d.prop=true then p.aU else p.props.contains d.prop)&&eH p d.val&&!d.val.isEmpty)):=rfl;have NO:Hid (∀wx,Below w2.heap.size w2 wx->kR p d=false->(wx.ownsRow w1.heap.size 9 1 u (((ds.take (i+1)).filter (kR p)).map jW).length ((((ds.take (i+1)).filter (kR p)).map jW).map Value.string))/\Below w1.heap.size w1 wx):=by intro wx hb hf;refine⟨?_,B2.o.trans (hb.mono oo)⟩;rw[HT.o,if_neg (by rw[hf];simp),List.append_nil];exact aP O2.o fun r hr=>hb.block r (O2.o.lt r hr).2
   by_cases hv0:d.val.length=0
   .have HF:Hid (kR p d=false):=by
     show _=_;rw[HDK.o,List.eq_nil_of_length_eq_zero hv0];simp
    have hvi:¬(0:Int)<(d.val.length:Int):=oo;have hvd:decide ((0:Int)<(d.val.length:Int))=false:=decide_eq_false hvi;clear hv0;go_wp2_with fail;go_roundg(gk-1);case measure=>omega
    case rel=>exact⟨u,i+1,rfl,by congr 1,oo,NO.o _ Ax HF.o⟩
   .have hvi:(0:Int)<(d.val.length:Int):=oo;have HNE:Hid (d.val.isEmpty=false):=by
     show _=_;cases hq:d.val with
     |nil=>rw[hq]at hv0;simp at hv0
     |cons _ _=>rfl
    have HPM:=F6 w1.heap.size p (.slice pa p.props.length pc) (.slice fa p.aJ.length fc) (.slice aa p.ats.length ac) w2 d.prop (HP1.o.below B2.o nl);obtain⟨z1,Hz1⟩:=Nm ((if custom d.prop=true then p.aU else p.props.contains d.prop));rw[Hz1.o]at HPM HDK;unfold dF at HPM;have alm:=hid HPM;clear HPM hv0;go_wp2_with fail;refine alm.o.mono ?_;rintro e w3 ⟨rfl,hb3⟩;have X3:=hid hb3;have D4:=hid (D3.o.below hb3);have hs3:=hb3.size;clear hb3 a0 a1 a2 q0 q1 q2 q3 q4 q5 alm;obtain⟨a0,a1,a2⟩:=D4.o.cs
    have B3:=hid (B2.o.trans (X3.o.mono oo));have Q3':=Q1.o.below B3.o oo;obtain⟨q0,q1,q2,q3,q4,q5⟩:=Q3'.cs;clear Q3';cases z1
    .have HF:Hid (kR p d=false):=HDK.o;go_wp2_with fail;go_roundg(gk-1);case measure=>omega
     case rel=>exact⟨u,i+1,rfl,by congr 1,oo,NO.o _ X3.o HF.o⟩
    .have HHM:=Dh d.val w1.heap.size p (.slice pa p.props.length pc) (.slice fa p.aJ.length fc) (.slice aa p.ats.length ac) (.slice va d.val.length vc) w3 (HP1.o.below B3.o nl) ((HVV.o.below X2.o oo).below X3.o oo) HKD.o;obtain⟨z2,Hz2⟩:=Nm (eH p d.val);rw[Hz2.o]at HHM HDK;unfold dF at HHM;have aln:=hid HHM;clear HHM;go_wp2_with fail;refine aln.o.mono ?_;rintro e w4 ⟨rfl,hb4⟩;have X4:=hid (X3.o.trans (hb4.mono hs3));have D5:=hid (D4.o.below hb4);have hs4:=X4.o.size
     clear hb4 a0 a1 a2 q0 q1 q2 q3 q4 q5 aln;obtain⟨a0,a1,a2⟩:=D5.o.cs;cases z2
     .have HF:Hid (kR p d=false):=HDK.o;go_wp2_with fail;go_roundg(gk-1);case measure=>omega
      case rel=>exact⟨u,i+1,rfl,by congr 1,oo,NO.o _ X4.o HF.o⟩
     .have HF:Hid (kR p d=true):=by show _=_;rw[HDK.o,HNE.o];rfl
      have hwz:dL d.val<=549755813888:=by unfold dz at hdz;omega
      have HDC:=LK w1.heap.size d (.slice va d.val.length vc) w4 ((HVV.o.below X2.o oo).below X4.o oo) oo hps hwz;have alo:=hid HDC;clear HDC;go_wp2_with fail;refine alo.o.mono ?_;obtain⟨y,Hy⟩:=Nm (jW d);rw[Hy.o];rintro e w5 ⟨rfl,hb5⟩;have X5:=hid (X4.o.trans (hb5.mono hs4));have B5:=hid (B2.o.trans (X5.o.mono oo));have O5:Hid (w5.ownsRow w1.heap.size 9 1 u ps.length (ps.map Value.string)):=aP O2.o fun r hr=>X5.o.block r (O2.o.lt r hr).2;have hs5:=B5.o.size;clear hb5 alo a0 a1 a2
      go_wp2_with(at_builtin;go_must(refine wpList_append_own _ rfl _ _ 26 rfl w1.heap.size 9 iS (.string ⟨#[]⟩) 1 16 Tryz.underlying26 HI.o.1 HI.o.2.1 HI.o.2.2.1 HI.o.2.2.2 rfl oo u ps.length (ps.map Value.string) rfl (O5.o.alloc _) ⟨w5.heap.size,0,none⟩ 1 1 [.string y] rfl rfl (cell_one_new _ _ _) (aT _) As oo An ?_));intro v6 w6 hown6 lS _;have O6:Hid (w6.ownsRow w1.heap.size 9 1 v6 (((ds.take (i+1)).filter (kR p)).map jW).length ((((ds.take (i+1)).filter (kR p)).map jW).map Value.string)):=by show World.ownsRow _ _ _ _ _ _ _;rw[HT.o,if_pos HF.o,Hy.o];first|(rw[List.length_append,List.map_append];exact hown6)|simpa using hown6
      have B6:Hid (Below w1.heap.size w1 w6):=(B5.o.alloc hs5 _).grown lS An (fun rr hr=>(O5.o.lt rr hr).1);clear hown6 lS;go_wp2_with fail;go_roundg(gk-1);case measure=>omega
      case rel=>exact⟨v6,i+1,rfl,by congr 1,oo,O6.o,B6.o⟩
  .have h1:(ds.length:Int)<=(i:Int):=oo;have O5:Hid (wr.ownsRow w1.heap.size 9 1 u ((ds.filter (kR p)).map jW).length (((ds.filter (kR p)).map jW).map Value.string)):=by
    have:=O1.o;rw[List.take_of_length_le oo]at this;exact this
   obtain⟨ps,KP⟩:=Nm ((ds.filter (kR p)).map jW);have hpl:ps.length=(ds.filter (kR p)).length:=by rw[<-KP.o,List.length_map]
   have hpf:(ds.filter (kR p)).length<=ds.length:=List.length_filter_le _ _;rw[KP.o]at O5 htot HBO;go_wp2_with fail;refine(Ii (b1 59) ps w1.heap.size u _ O5.o oo (by unfold acj;show _+ps.length*1<=_;omega)).mono ?_;rw[HBO.o];rintro e w5 ⟨rfl,hb5⟩;have B5:=hid (B0.o.trans ((B1.o.trans ((BR.o.trans (hb5.mono hsr)).mono hs1)).mono hsz0));clear hb5;go_wp2_with fail;go_ret;exact⟨rfl,by rw[zV.o];exact B5.o⟩
section
attribute [local go_sem] bI bJ aX aY
theorem aaC{nm:BY}(h:nm≠aA)(lv:Av)(p:Nat):fE 116 nm aA aA lv p=.iface 309 (.agg #[.string nm]):=by unfold fE;rw[if_pos rfl,if_neg h]
theorem Wq(lv:Av)(p:Nat):fE 116 aA aA aA lv p=.iface 311 (.agg #[]):=by unfold fE;rw[if_pos rfl,if_pos rfl]
theorem ac2{s:BY}(h:0<s.size):small s≠aA:=by
 intro e;have:=congrArg ByteArray.size e;have e2:(small s).size=s.size:=by show(s.data.toList.map jr).toArray.size=s.data.size;rw[List.size_toArray,List.length_map,Array.length_toList]
 rw[e2]at this;have:s.size=0:=this;omega
theorem Ws{rec:List Nd->Option bY}{l:List Nd}(nk:¬(hdN l).t.kind=14)(h:au (hdN l).t (b1 42)=false):aZ rec l=bZ rec [] l:=by
 unfold aZ kP;cases l with
 |nil=>rfl
 |cons n r=>have nk':¬n.t.kind=14:=nk;have h':au n.t (b1 42)=false:=h;simp only[dN,h',Bool.false_eq_true,if_false,if_neg nk']
theorem Wu{rec:List Nd->Option bY}{l:List Nd}(nk:¬(hdN l).t.kind=14)(h:au (hdN l).t (b1 42)=true):aZ rec l=bZ rec [Simple.of 116 aA] l.tail/\1+l.tail.length<=l.length:=by
 unfold aZ kP;cases l with
 |nil=>rw[xK]at h;cases h
 |cons n r=>have nk':¬n.t.kind=14:=nk;have h':au n.t (b1 42)=true:=h;simp only[dN,h',if_true,if_neg nk',List.tail_cons,List.length_cons,true_and];omega
theorem Np{rec:List Nd->Option bY}{l:List Nd}(hk:(hdN l).t.kind=14):aZ rec l=bZ rec [Simple.of 116 (small (hdN l).t.word)] l.tail/\1+l.tail.length<=l.length/\∃n r,l=n::r:=by
 unfold aZ kP;cases l with
 |nil=>exact absurd hk (by decide)
 |cons n r=>have hk':n.t.kind=14:=hk;simp only[if_pos hk',List.tail_cons,List.length_cons];exact⟨rfl,oo,_,_,rfl⟩
def NmL(l:List Nd):Prop:=∀n∈l,n.t.kind=14->0<n.t.word.size
theorem nO(w:WD)(x:Av)(t:TypeId):∀j u,[x][j]?=some u->(w.alloc (.cells #[x] t)).cell? ((⟨w.heap.size,0,none⟩:Addr).add j)=some u:=by intro j u hu;rw[Addr.add_lit,Nat.zero_add,World.cell?_alloc_mark,<-hu];simp
theorem Wv(f:Nat)(hR:Lh f)(B b:Nat)(sv:Av)(l:List Nd)(w:WD)(h:fV B w b sv l)(hd:uo f l)(hnm:NmL l):
  Calls prog 196 #[.pointer (some ⟨b,0,none⟩)] w fun e w'=>cpP f (aZ (dX f) l) B b w w' e/\Turn b w w':=by
 have R1:=hid h;have HR:=hid hR;have HD:Hid (uo f l):=hd;have HNM:=hid hnm;have hbw:b<w.heap.size:=h.lt;have FU:=h.len;clear h hR hd hnm;obtain⟨iT,hiT⟩:=aaj;have HI:=hid hiT;clear hiT;go_in;go_wp2_with fail;refine(Hg B b _ l _ R1.o).mono ?_;rintro e w1 ⟨kv1,rfl,_,hb1⟩;have R2:=hid (R1.o.below hb1);have T2:Hid (Turn b w w1):=Turn.of_below hb1;clear hb1 R1;unfold fB;go_upto_if 11 with fail;go_cut [4] (fun s4 wx=>∃(u:Av) (acc:List Simple) (cur:List Nd),u=s4/\acc.length+cur.length<=600/\Aside (CpI f B b w l u acc cur wx));case first=>
  cases hk:((hdN l).t.kind==14)
  .have nk:¬(hdN l).t.kind=14:=by simpa using hk
   go_wp2_with fail;refine(oP B b _ l (b1 42) _ R2.o).mono ?_;rintro e w3 ⟨Em,rfl,D7,Ox⟩;have T3:=hid (T2.o.trans Ox);have hs3:=T3.o.size;clear Ox;obtain⟨s1,Az⟩:=Nm (au (hdN l).t (b1 42));rw[Az.o];cases s1
   .have ac3:fV B w3 b Em l:=by rw[y5 Az.o]at D7;exact D7
    have HC:Hid (CpI f B b w l (.slice none 0 0) [] l w3):=⟨MG.nil _ _ _ _ _,⟨Em,ac3⟩,T3.o,Ws nk Az.o,HD.o,by simp⟩;clear D7 ac3 nk;go_wp2_with fail;go_meet
    exact⟨_,[],l,rfl,by simpa using FU,HC.o⟩
   .have ac3:fV B w3 b Em l.tail:=by rw[qZ Az.o]at D7;exact D7
    have R3:=hid ac3;have HE:Hid (aZ (dX f) l=bZ (dX f) [Simple.of 116 aA] l.tail/\1+l.tail.length<=l.length):=Wu nk Az.o;clear D7 ac3 nk;have M0:=MG.nil (aQ f) 1 222 w.heap.size w3;go_wp2_with(at_builtin;go_must(refine wpList_append_own_at _ rfl _ _ 217 rfl w.heap.size 222 iT .nilIface 1 16 Tryz.underlying217 HI.o.1 HI.o.2.1 HI.o.2.2.1 HI.o.2.2.2 rfl oo (.slice none 0 0) 0 [] rfl (World.ownsRow_nil _ _ _ _) ⟨w3.heap.size,0,none⟩ 1 1 [.iface 311 (.agg #[])] rfl rfl (nO _ _ _) (by simp[Value.oneCell']) As oo An ?_));intro v4 w4 hown4 dS _ oh;have hb4:Below w.heap.size w3 w4:=(Ax.alloc hs3 _).grown dS An (fun rr hr=>by simp[Value.ownBlock]at hr)
    have HC:Hid (CpI f B b w l v4 [Simple.of 116 aA] l.tail w4):=⟨MG.snoc (aQ.fair f) (l:=[]) (cs:=[]) rfl (by have:=aQ.plain f (DZ w.heap.size (w3.alloc (.cells #[.iface 311 (.agg #[])] 222)) (.slice none 0 0)) (w3.alloc (.cells #[.iface 311 (.agg #[])] 222)) 116 aA aA aA 0;rw[Wq]at this;exact this) hown4 dS (by simpa using oh),⟨Em,by have hr:=R3.o.alloc (.cells #[.iface 311 (.agg #[])] 222);exact⟨by rw[dS.block b (by simp;omega) (by simp[Value.ownBlock])];exact hr.blk,hr.sl.keep (fun _ hg=>hg) (fun g hg=>by have hg':g<B:=hg;have:=hr.lo;exact dS.block g An (by simp[Value.ownBlock])),hr.lo⟩⟩,T3.o.trans' hb4,HE.o.1,HD.o.tail,by simpa using HE.o.2⟩
    have hle:1+l.tail.length<=600:=by have:=HE.o.2;omega
    clear hown4 dS oh hb4 M0;go_wp2_with fail;go_meet
    exact⟨_,_,_,rfl,by simpa using hle,HC.o⟩
  .have nk:(hdN l).t.kind=14:=by simpa using hk
   obtain⟨tg,Htg⟩:=Nm (small (hdN l).t.word);have HE:Hid (aZ (dX f) l=bZ (dX f) [Simple.of 116 tg] l.tail/\1+l.tail.length<=l.length):=by have:=Np (rec:=dX f) nk;rw[Htg.o]at this;exact⟨this.1,this.2.1⟩
   have HT:Hid (tg≠aA):=by rw[<-Htg.o];obtain⟨n,r,e⟩:=(Np (rec:=dX f) nk).2.2;refine ac2 ?_;rw[e]at nk⊢;exact HNM.o n (by rw[e];simp) nk
   have hwd:=HD.o.hd.2;clear nk;obtain⟨n,Hn⟩:=Nm (hdN l);rw[Hn.o]at Htg hwd hk;go_wp2_with fail;refine(sN B b _ l _ R2.o).mono ?_;rw[Hn.o];rintro e w3 ⟨kv3,Em,rfl,_,D7,Ox⟩;have R3:=hid D7;have T3:=hid (T2.o.trans Ox);clear D7 Ox;unfold fB;go_wp2_with fail;refine(nH n.t.word _ hwd).mono ?_;rw[Htg.o];rintro e w5 ⟨rfl,hb5⟩;have R5:=hid (R3.o.below hb5);have T5:=hid (T3.o.trans (Turn.of_below hb5));have hs5:=T5.o.size;clear hb5 R3 T3
   go_wp2_with(at_builtin;go_must(refine wpList_append_own_at _ rfl _ _ 217 rfl w.heap.size 222 iT .nilIface 1 16 Tryz.underlying217 HI.o.1 HI.o.2.1 HI.o.2.2.1 HI.o.2.2.2 rfl oo (.slice none 0 0) 0 [] rfl (World.ownsRow_nil _ _ _ _) ⟨w5.heap.size,0,none⟩ 1 1 [.iface 309 (.agg #[.string tg])] rfl rfl (nO _ _ _) (by simp[Value.oneCell']) As oo An ?_));intro v4 w4 hown4 dS _ oh;have hb4:Below w.heap.size w5 w4:=(Ax.alloc hs5 _).grown dS An (fun rr hr=>by simp[Value.ownBlock]at hr)
   have HC:Hid (CpI f B b w l v4 [Simple.of 116 tg] l.tail w4):=⟨MG.snoc (aQ.fair f) (l:=[]) (cs:=[]) rfl (by have:=aQ.plain f (DZ w.heap.size (w5.alloc (.cells #[.iface 309 (.agg #[.string tg])] 222)) (.slice none 0 0)) (w5.alloc (.cells #[.iface 309 (.agg #[.string tg])] 222)) 116 tg aA aA 0;rw[aaC HT.o]at this;exact this) hown4 dS (by simpa using oh),⟨Em,by have hr:=R5.o.alloc (.cells #[.iface 309 (.agg #[.string tg])] 222);exact⟨by rw[dS.block b (by simp;omega) (by simp[Value.ownBlock])];exact hr.blk,hr.sl.keep (fun _ hg=>hg) (fun g hg=>by have hg':g<B:=hg;have:=hr.lo;exact dS.block g An (by simp[Value.ownBlock])),hr.lo⟩⟩,T5.o.trans' hb4,HE.o.1,HD.o.tail,by simpa using HE.o.2⟩
   have hle:1+l.tail.length<=600:=by have:=HE.o.2;omega
   clear hown4 dS oh hb4;go_wp2_with fail;go_meet
   exact⟨_,_,_,rfl,by simpa using hle,HC.o⟩
 case rest=>
 obtain⟨u,acc,cur,rfl,hlen,hA⟩:=hcut;have HC0:Hid (CpI f B b w l u acc cur wc):=hA.o;clear hA R2 T2 HNM;go_wp2_with fail;go_loopg[4] cur.length (fun gg v4 wr=>∃(u:Av) (acc:List Simple) (cur:List Nd),u=v4/\gg=cur.length/\acc.length+cur.length<=600/\Aside (CpI f B b w l u acc cur wr));case atStart=>exact⟨u,acc,cur,rfl,rfl,hlen,HC0.o⟩
 case round=>
  obtain⟨u,acc,cur,rfl,rfl,hlen,hA⟩:=hrel;have HC:Hid (CpI f B b w l u acc cur wr):=hA.o;clear hA HC0;obtain⟨ua,uc,rfl⟩:=HC.o.row.form;obtain⟨sv1,hR1⟩:=HC.o.rdr;have R1:=hid hR1;clear hR1;have hsr:=HC.o.turn.size;go_wp2_with fail;refine pmb (Ld B b _ cur _ R1.o) fun w2 hb2=>?_;have R2:=hid (R1.o.below hb2);have T2:=hid (HC.o.turn.trans (Turn.of_below hb2));have M2:=hid (HC.o.row.below (aQ.fair f) hb2);clear hb2 R1;obtain⟨fo,Hfo⟩:=Nm (CB (hdN cur).t);rw[Hfo.o];cases fo
  .have HV:Hid (aZ (dX f) l=some (acc,cur)):=by
    show _=_;rw[HC.o.eq,xP,Hfo.o];rfl
   go_wp2_with fail;go_ret2
   exact⟨by rw[HV.o];exact⟨_,_,rfl,R2.o,M2.o.sl (aQ.fair f) (aQ.sized f) oo⟩,T2.o⟩
  .have hcn:cur≠[]:=by
    rintro rfl;have:=Hfo.o;rw[IB]at this;cases this
   have HS:Hid (aZ (dX f) l=match iD (dX f) cur with|none=>none|some (s,r)=>bZ (dX f) (acc++[s]) r):=by show _=_;rw[HC.o.eq,xP,Hfo.o];rfl
   have HDC:Hid (uo f cur/\acc.length+cur.length<=l.length):=⟨HC.o.dep,HC.o.len⟩;have hs2:=T2.o.size;clear HC;go_wp2_with fail;refine(ai4 f HR.o B b _ cur w2 R2.o HDC.o.1).mono ?_;rintro e w3 ⟨hp,Ox⟩;have T3:=hid (T2.o.trans Ox);have M3:=hid (M2.o.turn (aQ.fair f) Ox hbw);have hs3:=Ox.size;clear Ox;unfold ptP at hp;cases hq:iD (dX f) cur with
   |none=>
    rw[hq]at hp;obtain⟨pv,Em,l3,rfl,D7⟩:=hp;have R3:=hid D7;have HV:Hid (aZ (dX f) l=none):=by show _=_;rw[HS.o,hq]
    clear hq D7;go_wp2_with fail;go_ret2
    exact⟨by rw[HV.o];exact⟨_,_,_,rfl,R3.o⟩,T3.o⟩
   |some sr=>
    obtain⟨s,r⟩:=sr;rw[hq]at hp;obtain⟨pv,Em,rfl,D7,hps⟩:=hp;obtain⟨pT,pu,rfl⟩:=hps.form;have R3:=hid D7;have HV:Hid (aZ (dX f) l=bZ (dX f) (acc++[s]) r):=by show _=_;rw[HS.o,hq]
    have hrl:=(AO hq hcn).1;have HDR:Hid (uo f r):=(AO hq hcn).2 f HDC.o.1;have PA:∀o,Hid (aQ f (DZ w.heap.size (w3.alloc o) (.slice ua acc.length uc)) (w3.alloc o) s [.iface pT pu]):=fun o=>M2.o.apart (aQ.fair f) hps hs2 Ab (fun g hg=>Below.heap_alloc _ _ _ hg);obtain⟨cs,hown,pX⟩:=(M3.o.alloc (aQ.fair f) (.cells #[.iface pT pu] 222));have HO:=hid hown;have Wx:=hid pX;clear hq D7 hps hown pX HS hcn
    go_wp2_with(at_builtin;go_must(refine wpList_append_own_at _ rfl _ _ 217 rfl w.heap.size 222 iT .nilIface 1 16 Tryz.underlying217 HI.o.1 HI.o.2.1 HI.o.2.2.1 HI.o.2.2.2 rfl oo (.slice ua acc.length uc) acc.length cs rfl HO.o ⟨w3.heap.size,0,none⟩ 1 1 [.iface pT pu] rfl rfl (nO _ _ _) (by simp[Value.oneCell']) As oo An ?_));intro v4 w4 hown4 dS _ oh;have hlo:∀rr,Value.ownBlock (.slice ua acc.length uc)=some rr->w.heap.size<=rr:=fun rr hr=>(HO.o.lt rr hr).1;have hb4:Below w.heap.size w3 w4:=(Ax.alloc oo _).grown dS An hlo;have FZ:Hid (CpI f B b w l v4 (acc++[s]) r w4):=⟨MG.snoc (aQ.fair f) Wx.o (PA _).o hown4 dS (by simpa using oh),⟨Em,by have hr:=R3.o.alloc (.cells #[.iface pT pu] 222);exact⟨by rw[dS.block b (by simp;omega) (fun e=>by have:=hlo b e.symm;omega)];exact hr.blk,hr.sl.keep (fun _ hg=>hg) (fun g hg=>by have hg':g<B:=hg;have:=hr.lo;exact dS.block g An (fun e=>by have:=hlo g e.symm;omega)),hr.lo⟩⟩,T3.o.trans' hb4,HV.o,HDR.o,by have:=HDC.o.2;simp;omega⟩
    clear hown4 dS oh hb4 hlo;go_wp2_with fail;go_roundg r.length;case measure=>omega
    case rel=>exact⟨v4,acc++[s],r,rfl,rfl,by simp;omega,FZ.o⟩
end
section
section
variable {w w':WD} {g:Nat} {t:Tok}
end
end
section
section
variable {rec:List Nd->Option bY} {acc:List Simple} {n:Nd} {r:List Nd}
theorem Wy:bZ rec acc []=some (acc,[]):=by simp[bZ]
end
end
section
section
variable {rec:List Nd->Option bY} {g b:Nat} {l r:List Nd} {all:List Simple}
theorem LM(h:aZ rec l=none):bD rec (g+1) b l=none:=by unfold bD;rw[h]
theorem Jj(h:aZ rec l=some ([],r)):bD rec (g+1) b l=none:=by unfold bD;rw[h];simp
theorem LP(h:aZ rec l=some (all,[]))(ha:all≠[]):bD rec (g+1) b l=some [(b,all)]:=by unfold bD;rw[h];simp[ha]
theorem RY(h:aZ rec l=some (all,r))(hr:r≠[])(hc:gU r=none):bD rec (g+1) b l=none:=by
 unfold bD;rw[h];simp only;by_cases ha:all=[]
 .rw[if_pos ha]
 .rw[if_neg ha,if_neg hr,hc]
theorem LQ{c:Nat}{r':List Nd}(h:aZ rec l=some (all,r))(ha:all≠[])(hr:r≠[])(hc:gU r=some (c,r')):bD rec (g+1) b l=(bD rec g c r').map (fun x=>(b,all)::x):=by
 conv=>lhs;unfold bD
 rw[h];simp only;rw[if_neg ha,if_neg hr,hc]
end
end
section
theorem uw:∀(l:List Nd) (n:Nd),n∈aH l->n∈l
 |m::r,n,h=>by
  unfold aH at h;split at h
  .exact List.mem_cons_of_mem _ (uw r n h)
  .exact h
theorem RZ(l:List Nd)(n:Nd)(h:n∈bare l):n∈l:=by unfold bare lJ at h;rw[List.mem_reverse]at h;exact uw l n (List.mem_reverse.1 (uw _ n h))
theorem Ey:∀(l:List Nd) (out:List (List Nd)) (cur:List Nd) (P:Nd->Prop),(∀p∈out,∀n∈p,P n)->(∀n∈cur,P n)->(∀n∈l,P n)->∀p∈iZ out cur l,∀n∈p,P n
 |[],out,cur,P,h1,h2,_,p,hp,n,hn=>by
  unfold iZ at hp;rcases List.mem_append.1 hp with h|h
  .exact h1 p h n hn
  .simp at h;subst h;exact h2 n hn
 |m::r,out,cur,P,h1,h2,h3,p,hp,n,hn=>by
  unfold iZ at hp;split at hp
  .refine Ey r (out++[cur]) [] P (fun q hq k hk=>?_) Ab (fun k hk=>h3 k (by simp[hk])) p hp n hn;rcases List.mem_append.1 hq with h|h
   .exact h1 q h k hk
   .simp at h;subst h;exact h2 k hk
  .refine Ey r out (cur++[m]) P h1 (fun k hk=>?_) (fun k hk=>h3 k (by simp[hk])) p hp n hn;rcases List.mem_append.1 hk with h|h
   .exact h2 k h
   .simp at h;subst h;exact h3 _ Ab
theorem WA(l:List Nd):(parted l).length<=l.length+1:=by
 have:∀(l:List Nd) (out:List (List Nd)) (cur:List Nd),(iZ out cur l).length<=out.length+l.length+1:=by
  intro l;induction l with
  |nil=>intro out cur;simp[iZ]
  |cons m r ih=>
   intro out cur;unfold iZ;split
   .have:=ih (out++[cur]) [];simp at this⊢;omega
   .have:=ih out (cur++[m]);simp at this⊢;omega
 have:=this l [] [];simpa[parted]using this
section
variable {rec:List Nd->Option bY} {p:List Nd} {r:List (List Nd)}
theorem WB(h:je rec (bare p)=none):fZ rec (p::r)=none:=by unfold fZ;rw[h]
theorem WC{s:List Step}(h:je rec (bare p)=some s):fZ rec (p::r)=(fZ rec r).map (fun x=>s::x):=by
 have e:fZ rec (p::r)=match je rec (bare p)with|none=>none|some s=>(fZ rec r).map (fun x=>s::x):=rfl
 rw[e,h]
end
end
