import Derived.Test.YtlliliddljkbfaaGreatC5
set_option maxHeartbeats 64000000
set_option maxRecDepth 100000
namespace Go.Proofs.YtlliliddljkbfaaGreat
open Go.Proofs.Tryz (prog)
open Go.RowKit Sp
section
attribute [local go_sem] bI bJ aX aY
section
variable (B:Nat) (p:aF) (pv fv av:Av) (w:WD)
theorem aaz(h:jK B w p pv fv av):Calls prog 123 #[dF p pv fv av] w fun e w'=>e=.returned (.string p.root)/\Below w.heap.size w w':=by obtain⟨pa,pc,rfl⟩:=h.props.form;obtain⟨fa,fc,rfl⟩:=h.aJ.form;obtain⟨aa,ac,rfl⟩:=h.ats.form;have B0:Hid (Below w.heap.size w (w.alloc (.cells #[.string p.root,.slice pa p.props.length pc,.slice fa p.aJ.length fc,.slice aa p.ats.length ac,.bool p.aU,.bool p.texts] 82))):=Ax.alloc nl _;clear h;unfold dF;go_in;go_wp2_with fail;go_ret;exact⟨rfl,B0.o⟩
theorem LJ(x:BY)(h:jK B w p pv fv av):Calls prog 116 #[dF p pv fv av,.string x] w fun e w'=>e=.returned (.bool (p.ats.contains x))/\Below w.heap.size w w':=by obtain⟨pa,pc,rfl⟩:=h.props.form;obtain⟨fa,fc,rfl⟩:=h.aJ.form;obtain⟨aa,ac,rfl⟩:=h.ats.form;have B0:Hid (Below w.heap.size w (w.alloc (.cells #[.string p.root,.slice pa p.props.length pc,.slice fa p.aJ.length fc,.slice aa p.ats.length ac,.bool p.aU,.bool p.texts] 82))):=Ax.alloc nl _;have HA:=hid (h.ats.below eX.fair B0.o h.lt);clear h;unfold dF;go_in;go_wp2_with fail;refine pmb (YL _ p.ats _ x _ HA.o) fun wq hwq=>?_;rw[hwq];go_wp2_with fail;go_ret;exact⟨rfl,B0.o⟩
theorem F6(x:BY)(h:jK B w p pv fv av):Calls prog 193 #[dF p pv fv av,.string x] w fun e w'=>e=.returned (.bool (if custom x=true then p.aU else p.props.contains x))/\Below w.heap.size w w':=by
 obtain⟨pa,pc,rfl⟩:=h.props.form;obtain⟨fa,fc,rfl⟩:=h.aJ.form;obtain⟨aa,ac,rfl⟩:=h.ats.form;have B0:Hid (Below w.heap.size w (w.alloc (.cells #[.string p.root,.slice pa p.props.length pc,.slice fa p.aJ.length fc,.slice aa p.ats.length ac,.bool p.aU,.bool p.texts] 82))):=Ax.alloc nl _;have HA:=hid (h.props.below eX.fair B0.o h.lt)
 have Q0:Hid (Q6 (w.alloc (.cells #[.string p.root,.slice pa p.props.length pc,.slice fa p.aJ.length fc,.slice aa p.ats.length ac,.bool p.aU,.bool p.texts] 82)) w.heap.size (.string p.root) (.slice pa p.props.length pc) (.slice fa p.aJ.length fc) (.slice aa p.ats.length ac) (.bool p.aU) (.bool p.texts)):=Q6.new _ _ _ _ _ _ _;clear h;obtain⟨z,Hz⟩:=Nm (custom x);rw[Hz.o];unfold dF;go_in;go_wp2_with fail;generalize w.alloc (.cells #[.string p.root,.slice pa p.props.length pc,.slice fa p.aJ.length fc,.slice aa p.ats.length ac,.bool p.aU,.bool p.texts] 82)=w0 at *;obtain⟨q0,q1,q2,q3,q4,q5⟩:=Q0.o.cs;refine(rE x _).mono ?_;rw[Hz.o];rintro e wq ⟨rfl,hwq⟩;rw[hwq];clear hwq;cases z
 .go_wp2_with fail;refine pmb (YL _ p.props _ x _ HA.o) fun wq hwq=>?_;rw[hwq];go_wp2_with fail;go_ret;exact⟨rfl,B0.o⟩
 .go_wp2_with fail;go_ret;exact⟨rfl,B0.o⟩
end
def lwI(c:Int):Bool:=decide (97<=c)&&decide (c<=122)
theorem ain(c:UInt8):lwI (c.toNat:Int)=jh c:=by unfold lwI jh;rw[Bool.eq_iff_iff];simp;omega
def ldI(c:Int):Bool:=lwI c||c==45
theorem alk(c:UInt8):ldI (c.toNat:Int)=(jh c||c==45):=by unfold ldI;rw[ain,show(c==45)=((c.toNat:Int)==45) from tZ c 45 oo]
theorem Nl(c:Int)(w:WD):Calls prog 171 #[.int .u8 c] w fun e w'=>e=.returned (.bool (lwI c))/\w'=w:=by
 go_in;go_wp2
 all_goals
  go_ret;exact⟨aC (by rw[Bool.eq_iff_iff];simp[lwI, *]<;>omega),rfl⟩
theorem F7(c:Int)(w:WD):Calls prog 234 #[.int .u8 c] w fun e w'=>e=.returned (.bool (ldI c))/\w'=w:=by
 cases h1:lwI c;all_goals
  go_in;go_wp2_with(go_at_call 171;refine(Nl _ _).mono ?_;rintro e w' ⟨rfl,rfl⟩);go_ret;exact⟨aC (by simp[ldI,h1]),rfl⟩
theorem acX(s:BY)(g:Nat)(f:UInt8->Bool)(w:WD)(hs:s.size<=4194304)
  (hg:∀(args:Array Av) (w:WD),(callFunc g args).run prog w=.ok (.enter g args) w)
  (hf:∀(c:UInt8) (w:WD),Calls prog g (#[.int .u8 (c.toNat:Int)] ++ #[]) w fun e w'=>e=.returned (.bool (f c))/\w'=w):
  Calls prog 170 #[.string s,.func (.func g) #[] #[]] w fun e w'=>e=.returned (.bool (allB f s))/\w'=w:=by
 have HF:=hid hf;clear hf;go_in;go_wp2_with fail;go_loopg[8] s.size (fun gg v8 wr=>∃k:Nat,k+gg=s.size/\v8=.int .i64 (k:Int)/\Aside (rJ f s k=true/\wr=w));case atStart=>exact⟨0,oo,rfl,rfl,rfl⟩
 case round=>
  obtain⟨k,hk,rfl,hA⟩:=hrel;have HA:=hid hA.o.1;obtain rfl:=hA.o.2;clear hA;by_cases hlt:k<s.size
  .have h1:(k:Int)<(s.size:Int):=oo;have hix:=gQ s k hlt;rw[Ie hlt,MJ hlt]at hix;have HC:=HF.o s[k] wr;obtain⟨z,Hz⟩:=Nm (f s[k]);rw[Hz.o]at HC;have HC':Hid (Calls prog g (#[.int .u8 (s[k].toNat:Int)] ++ #[]) wr fun e w'=>e=.returned (.bool z)/\w'=wr):=HC;clear HC;go_wp2_with fail;refine HC'.o.mono ?_;rintro e wq ⟨rfl,hwq⟩;rw[hwq];clear hwq;cases z
   .have HV:Hid (allB f s=false):=x9 f hlt Hz.o;go_wp2_with fail;go_ret;exact⟨aC HV.o.symm,rfl⟩
   .have HN:Hid (rJ f s (k+1)=true):=by show _=_;rw[vU f hlt,HA.o,Hz.o];rfl
    go_wp2_with fail;go_roundg(gk-1);case measure=>omega
    case rel=>exact⟨k+1,oo,by congr 1,HN.o,rfl⟩
  .have h1:(s.size:Int)<=(k:Int):=oo;have HV:Hid (allB f s=true):=by
    show _=_;rw[<-Eu];have:k=s.size:=oo;rw[<-this];exact HA.o
   go_wp2_with fail;go_ret;exact⟨aC HV.o.symm,rfl⟩
end
section
attribute [local go_sem] bI bJ aX aY
theorem RS(zs:List BY)(v:Av)(g:Nat)(f:BY->Bool)(S:Nat->Prop)(w:WD)(h:SG eX 1 S w v zs)
  (hg:∀(args:Array Av) (w:WD),(callFunc g args).run prog w=.ok (.enter g args) w)
  (hf:∀(x:BY) (w:WD),x.size<=4194304->Calls prog g (#[.string x] ++ #[]) w fun e w'=>e=.returned (.bool (f x))/\w'=w):
  Calls prog 91 #[v,.func (.func g) #[] #[]] w fun e w'=>∃i:Int,e=.returned (.int .i64 i)/\decide (0<=i)=zs.any f/\w'=w:=by
 have hl:=h.len;have HS:=hid h;have HF:=hid hf;obtain⟨a,cap,rfl⟩:=h.form;clear h hf;go_in;go_wp2_with fail;go_loopg[8] zs.length (fun gg v8 wr=>∃k:Nat,k+gg=zs.length/\v8=.int .i64 (k:Int)/\Aside (zs.any f=(zs.drop k).any f/\wr=w));case atStart=>exact⟨0,oo,rfl,by simp,rfl⟩
 case round=>
  obtain⟨k,hk,rfl,hA⟩:=hrel;have HA:=hid hA.o.1;obtain rfl:=hA.o.2;clear hA;by_cases hlt:k<zs.length
  .have h1:(k:Int)<(zs.length:Int):=oo;obtain⟨g',o,rfl,hL,hcap⟩:=HS.o.here (by rintro rfl;simp at hlt);obtain⟨_,c0,hxs⟩:=hL.str (i:=k) hlt;have HA2:Hid (zs.any f=(f zs[k]||(zs.drop (k+1)).any f)):=by show _=_;rw[HA.o,List.drop_eq_getElem_cons hlt];rfl
   generalize zs[k]=x at *;have HC:=HF.o x wr hxs;obtain⟨z,Hz⟩:=Nm (f x);rw[Hz.o]at HC HA2;have HC':Hid (Calls prog g (#[.string x] ++ #[]) wr fun e w'=>e=.returned (.bool z)/\w'=wr):=HC;clear HC hL;go_wp2_with fail;refine HC'.o.mono ?_;rintro e wq ⟨rfl,hwq⟩;rw[hwq];clear hwq;cases z
   .go_wp2_with fail;go_roundg(gk-1);case measure=>omega
    case rel=>exact⟨k+1,oo,by congr 1,HA2.o,rfl⟩
   .have HV:Hid (zs.any f=true):=HA2.o;go_wp2_with fail;go_ret;exact⟨_,rfl,by rw[HV.o];exact decide_eq_true oo,rfl⟩
  .have h1:(zs.length:Int)<=(k:Int):=oo;have HV:Hid (zs.any f=false):=by show _=_;rw[HA.o,List.drop_of_length_le oo];rfl
   go_wp2_with fail;go_ret;exact⟨_,rfl,by rw[HV.o];rfl,rfl⟩
theorem rM(zs:List BY)(v:Av)(g:Nat)(f:BY->Bool)(S:Nat->Prop)(w:WD)(h:SG eX 1 S w v zs)
  (hg:∀(args:Array Av) (w:WD),(callFunc g args).run prog w=.ok (.enter g args) w)
  (hf:∀(x:BY) (w:WD),x.size<=4194304->Calls prog g (#[.string x] ++ #[]) w fun e w'=>e=.returned (.bool (f x))/\w'=w):
  Calls prog 59 #[v,.func (.func g) #[] #[]] w fun e w'=>e=.returned (.bool (zs.any f))/\w'=w:=by
 have HI:Hid (Calls prog 91 #[v,.func (.func g) #[] #[]] w fun e w'=>∃i:Int,e=.returned (.int .i64 i)/\decide (0<=i)=zs.any f/\w'=w):=RS zs v g f S w h hg hf;obtain⟨a,cap,rfl⟩:=h.form;clear h hf hg;go_in;go_wp2_with fail;refine HI.o.mono ?_;rintro e wq ⟨i,rfl,hi,hwq⟩;rw[hwq];have HV:=hid hi;clear hi hwq;go_wp2_with fail;go_ret;exact⟨aC HV.o,rfl⟩
theorem acY(s:BY)(w:WD)(hs:s.size<=4194304):Calls prog 106 #[.string s] w fun e w'=>e=.returned (.bool (allB jh s&&decide (s.size<=12)))/\w'=w:=by
 have HO:Hid (Calls prog 170 #[.string s,.func (.func 171) #[] #[]] w fun e w'=>e=.returned (.bool (allB jh s))/\w'=w):=acX s 171 jh w hs (fun _ _=>rfl) (fun c w=>by rw[<-ain];exact Nl _ w)
 by_cases h12:s.size<=12
 .have h1:(s.size:Int)<=12:=oo;have HV:Hid ((allB jh s&&decide (s.size<=12))=allB jh s):=by show _=_;rw[decide_eq_true h12];exact Bool.and_true _
  clear h12;rw[HV.o];generalize allB jh s=z at *;go_in;go_wp2_with fail;refine HO.o.mono ?_;rintro e wq ⟨rfl,hwq⟩;rw[hwq];go_wp2_with fail;go_ret;exact⟨rfl,rfl⟩
 .have h1:(12:Int)<(s.size:Int):=oo;have HV:Hid ((allB jh s&&decide (s.size<=12))=false):=by show _=_;rw[decide_eq_false h12];exact Bool.and_false _
  clear h12 HO;rw[HV.o];go_in;go_wp2_with fail;go_ret;exact⟨rfl,rfl⟩
def Jd(s:BY):Bool:=!gK s
theorem Wj(s:BY)(w:WD)(hs:s.size<=4194304):Calls prog 172 #[.string s] w fun e w'=>e=.returned (.bool (Jd s))/\w'=w:=by
 have HO:Hid (Calls prog 170 #[.string s,.func (.func 234) #[] #[]] w fun e w'=>e=.returned (.bool (allB (fun c=>jh c||c==45) s))/\w'=w):=acX s 234 (fun c=>jh c||c==45) w hs (fun _ _=>rfl) (fun c w=>by rw[<-alk];exact F7 _ w)
 have HN:Hid (Jd s = !(allB (fun c=>jh c||c==45) s&&decide (1<=s.size)&&decide (s.size<=30))):=rfl;by_cases he:s.toList=[]
 .have hz:s.size=0:=by rw[fC]at he;rw[<-qJ,he];rfl
  have HV:Hid (Jd s=true):=by show _=_;rw[HN.o,decide_eq_false (show ¬1<=s.size by omega)];simp
  clear hz HO HN;go_in;go_wp2_with fail;go_ret;exact⟨aC HV.o.symm,rfl⟩
 .have hz:1<=s.size:=by
   rcases Nat.eq_zero_or_pos s.size with h|h
   .exact absurd (by rw[fC];exact List.eq_nil_of_length_eq_zero (by rw[qJ];exact h)) he
   .exact h
  have hie:s.toList.isEmpty=false:=by cases hq:s.toList with|nil=>exact absurd hq he|cons _ _=>rfl
  by_cases h30:s.size<=30
  .have h1:(s.size:Int)<=30:=oo;have HV:Hid (Jd s = !(allB (fun c=>jh c||c==45) s)):=by show _=_;rw[HN.o,decide_eq_true hz,decide_eq_true h30];simp
   clear h30 hz HN;generalize allB (fun c=>jh c||c==45) s=z at *;go_in;go_wp2_with fail;refine HO.o.mono ?_;rintro e wq ⟨rfl,hwq⟩;rw[hwq];go_wp2_with fail;go_ret;exact⟨aC (by rw[HV.o,decide_eq_false oo];rfl),rfl⟩
  .have h1:(30:Int)<(s.size:Int):=oo;have HV:Hid (Jd s=true):=by show _=_;rw[HN.o,decide_eq_false h30];simp
   clear h30 hz HN HO;go_in;go_wp2_with fail;go_ret;exact⟨aC HV.o.symm,rfl⟩
def wP(s:BY):Bool:=pk s 0==45
theorem acZ(s:BY):Lib.hasPrefix s.data.toList [45]=wP s:=by have h:=xI s [45] 0;rw[List.drop_zero]at h;unfold Lib.hasPrefix;rw[h];show(pk s 0==45&&true)=_;rw[Bool.and_true];rfl
theorem Ew(s:BY)(w:WD):Calls prog 108 #[.string s] w fun e w'=>e=.returned (.bool (wP s))/\w'=w:=by have HV:Hid (Lib.hasPrefix s.data.toList [45]=wP s):=acZ s;go_in;go_wp2_with fail;refine pmb (Tryz.strings_HasPrefix s ⟨#[45]⟩ w) fun wq hwq=>?_;rw[hwq];go_wp2_with fail;go_ret;exact⟨aC HV.o,rfl⟩
def AU(zs:List BY):Bool:=decide (zs.length<=20)&&zs.all gK
theorem ags(zs:List BY):(!zs.any Jd)=zs.all gK:=by
 rw[List.not_any_eq_all_not];congr 1
 funext s
 unfold Jd;exact Bool.not_not _
theorem AV(S:Nat->Prop)(zs:List BY)(v:Av)(w:WD)(h:SG eX 1 S w v zs):Calls prog 107 #[v] w fun e w'=>e=.returned (.bool (AU zs))/\w'=w:=by
 have hl:=h.len;have HC:Hid (Calls prog 59 #[v,.func (.func 172) #[] #[]] w fun e w'=>e=.returned (.bool (zs.any Jd))/\w'=w):=rM zs v 172 Jd S w h (fun _ _=>rfl) (fun x w hx=>Wj x w hx)
 obtain⟨a,cap,rfl⟩:=h.form;clear h;by_cases h20:zs.length<=20
 .have h1:(zs.length:Int)<=20:=oo;have HV:Hid (AU zs = !zs.any Jd):=by show _=_;unfold AU;rw[decide_eq_true h20,ags];rfl
  clear h20;generalize zs.any Jd=z at *;go_in;go_wp2_with fail;refine HC.o.mono ?_;rintro e wq ⟨rfl,hwq⟩;rw[hwq];go_wp2_with fail;go_ret;exact⟨aC HV.o.symm,rfl⟩
 .have h1:(20:Int)<(zs.length:Int):=oo;have HV:Hid (AU zs=false):=by show _=_;unfold AU;rw[decide_eq_false h20];rfl
  clear h20 HC;go_in;go_wp2_with fail;go_ret;exact⟨aC HV.o.symm,rfl⟩
end
section
def SB(w:WD)(g:Nat)(a b c d e f:Av):Prop:=w.heap[g]?=some (.cells #[a,b,c,d,e,f] 278 (0,0))
section
variable {w w':WD} {g:Nat} {a b c d e f:Av}
end
def amJ(w:WD)(g:Nat)(a b c d e f:Av):WD:=(((((w.setCell ⟨g,0,none⟩ a).setCell ⟨g,1,none⟩ b).setCell ⟨g,2,none⟩ c).setCell ⟨g,3,none⟩ d).setCell ⟨g,4,none⟩ e).setCell ⟨g,5,none⟩ f
theorem Je{B g:Nat}{x w:WD}(h:Below B x w)(hg:B<=g)(a b c d e f:Av):Below B x (amJ w g a b c d e f):=(((((h.setCell hg a).setCell hg b).setCell hg c).setCell hg d).setCell hg e).setCell hg f
end
section
attribute [local go_sem] bI bJ aX aY
theorem agt(zs:List BY):zs.all (fun s=>gK s&&!(pk s 0==45))=(zs.all gK&&!zs.any wP):=by
 induction zs with
 |nil=>rfl
 |cons z r ih=>rw[List.all_cons,List.all_cons,List.any_cons,ih];show((gK z&&!wP z)&&_)=_;cases gK z<;>cases wP z<;>cases r.all gK<;>rfl
theorem YM(p:aF):qp p=((allB jh p.root&&decide (p.root.size<=12))&&AU p.props&&!p.props.any wP&&AU p.aJ&&AU p.ats):=by unfold qp AU;rw[agt];show(allB jh p.root&&decide (p.root.size<=12)&&(decide (p.props.length<=20)&&(p.props.all gK&&!p.props.any wP))&&_&&_)=_;cases allB jh p.root&&decide (p.root.size<=12)<;>cases decide (p.props.length<=20)<;>cases p.props.all gK<;>cases p.props.any wP<;>rfl
def Qa(w:WD)(b:Nat)(x0 x1 x2 x3 x4 x5:Av):Prop:=w.heap[b]?=some (.cells #[x0,x1,x2,x3,x4,x5] 41 (0,0))
theorem Qa.cs{w:WD}{b:Nat}{x0 x1 x2 x3 x4 x5:Av}(h:Qa w b x0 x1 x2 x3 x4 x5):w.cell? ⟨b,0,none⟩=some x0/\w.cell? ⟨b,1,none⟩=some x1/\w.cell? ⟨b,2,none⟩=some x2/\w.cell? ⟨b,3,none⟩=some x3/\w.cell? ⟨b,4,none⟩=some x4/\w.cell? ⟨b,5,none⟩=some x5:=by have h':w.heap[b]?=_:=h;refine⟨?_,?_,?_,?_,?_,?_⟩<;>(unfold World.cell?;rw[h'];rfl)
theorem Qa.lt{w:WD}{b:Nat}{x0 x1 x2 x3 x4 x5:Av}(h:Qa w b x0 x1 x2 x3 x4 x5):b<w.heap.size:=(Ay h)
theorem Qa.new(w:WD)(x0 x1 x2 x3 x4 x5:Av):Qa (w.alloc (.cells #[x0,x1,x2,x3,x4,x5] 41)) w.heap.size x0 x1 x2 x3 x4 x5:=heap_alloc_new w _
theorem Qa.nb(p:aF)(pa fa aa:Option Addr)(pc fc ac:Nat)(w:WD):Hid (Below w.heap.size w (w.alloc (.cells #[.string p.root,.slice pa p.props.length pc,.slice fa p.aJ.length fc,.slice aa p.ats.length ac,.bool p.aU,.bool p.texts] 41)))/\Hid (Qa (w.alloc (.cells #[.string p.root,.slice pa p.props.length pc,.slice fa p.aJ.length fc,.slice aa p.ats.length ac,.bool p.aU,.bool p.texts] 41)) w.heap.size (.string p.root) (.slice pa p.props.length pc) (.slice fa p.aJ.length fc) (.slice aa p.ats.length ac) (.bool p.aU) (.bool p.texts)):=⟨Ax.alloc nl _,Qa.new _ _ _ _ _ _ _⟩
theorem Qa.below{w w':WD}{b g:Nat}{x0 x1 x2 x3 x4 x5:Av}(h:Qa w b x0 x1 x2 x3 x4 x5)(hb:Below g w w')(hg:b<g):Qa w' b x0 x1 x2 x3 x4 x5:=by show _=_;rw[hb.block b hg];exact h
theorem Wp(B:Nat)(p:aF)(pv fv av:Av)(w:WD)(h:jK B w p pv fv av)(hr:p.root.size<=4194304):
  Calls prog 66 #[dF p pv fv av] w fun e w'=>e=.returned (.bool (qp p))/\Below w.heap.size w w':=by
 obtain⟨pa,pc,rfl⟩:=h.props.form;obtain⟨fa,fc,rfl⟩:=h.aJ.form;obtain⟨aa,ac,rfl⟩:=h.ats.form;obtain⟨B0,Q0⟩:=Qa.nb p pa fa aa pc fc ac w;have HP:=hid (h.below B0.o h.lt);have HE:Hid (qp p=((allB jh p.root&&decide (p.root.size<=12))&&AU p.props&&!p.props.any wP&&AU p.aJ&&AU p.ats)):=YM p;clear h;unfold dF;go_in;go_upto_region 1 with fail
 generalize w.alloc (.cells #[.string p.root,.slice pa p.props.length pc,.slice fa p.aJ.length fc,.slice aa p.ats.length ac,.bool p.aU,.bool p.texts] 41)=w0 at *;obtain⟨q0,q1,q2,q3,q4,q5⟩:=Q0.o.cs;have H1:=acY p.root w0 hr;have H2:=AV _ p.props _ w0 HP.o.props;have H3:=rM p.props _ 108 wP _ w0 HP.o.props (fun _ _=>rfl) (fun x w _=>Ew x w);have H4:=AV _ p.aJ _ w0 HP.o.aJ;have H5:=AV _ p.ats _ w0 HP.o.ats;obtain⟨z1,Z1⟩:=Nm ((allB jh p.root&&decide (p.root.size<=12)));obtain⟨z2,Z2⟩:=Nm (AU p.props);obtain⟨z3,Z3⟩:=Nm (p.props.any wP);obtain⟨z4,Z4⟩:=Nm (AU p.aJ);obtain⟨z5,Z5⟩:=Nm (AU p.ats);rw[Z1.o]at H1;rw[Z2.o]at H2;rw[Z3.o]at H3;rw[Z4.o]at H4
 rw[Z5.o]at H5;have HE2:Hid (qp p=(z1&&z2&&!z3&&z4&&z5)):=by show _=_;rw[HE.o,Z1.o,Z2.o,Z3.o,Z4.o,Z5.o]
 have C1:=hid H1;have C2:=hid H2;have C3:=hid H3;have C4:=hid H4;have C5:=hid H5;clear H1 H2 H3 H4 H5 HE HP;go_wp2_with fail;refine C1.o.mono ?_;rintro e wq ⟨rfl,hwq⟩;rw[hwq];clear hwq;cases z1
 .have HV:Hid (qp p=false):=HE2.o;go_wp2_with fail;go_ret;exact⟨aC HV.o.symm,B0.o⟩
 go_wp2_with fail;refine C2.o.mono ?_;rintro e wq ⟨rfl,hwq⟩;rw[hwq];clear hwq;cases z2
 .have HV:Hid (qp p=false):=HE2.o;go_wp2_with fail;go_ret;exact⟨aC HV.o.symm,B0.o⟩
 go_wp2_with fail;refine C3.o.mono ?_;rintro e wq ⟨rfl,hwq⟩;rw[hwq];clear hwq;cases z3
 .go_wp2_with fail;refine C4.o.mono ?_;rintro e wq ⟨rfl,hwq⟩;rw[hwq];clear hwq;cases z4
  .have HV:Hid (qp p=false):=HE2.o;go_wp2_with fail;go_ret;exact⟨aC HV.o.symm,B0.o⟩
  go_wp2_with fail;refine C5.o.mono ?_;rintro e wq ⟨rfl,hwq⟩;rw[hwq];clear hwq;have HV:Hid (qp p=z5):=HE2.o;go_wp2_with fail;go_ret;exact⟨aC HV.o.symm,B0.o⟩
 .have HV:Hid (qp p=false):=HE2.o;go_wp2_with fail;go_ret;exact⟨aC HV.o.symm,B0.o⟩
theorem Q6.fz{w:WD}{b:Nat}{x0 x1 x2 x3 x4 x5:Av}(h:Q6 w b x0 x1 x2 x3 x4 x5)(o:Nat):w.frozen? ⟨b,o,none⟩=false:=by have h':w.heap[b]?=_:=h;unfold World.frozen?;rw[h'];simp
theorem agu(B:Nat)(p:aF)(pv fv av:Av)(w:WD)(h:jK B w p pv fv av)(hr:p.root.size<=4194304):
  Calls prog 39 #[dF p pv fv av] w fun e w'=>(∃u,e=.returned (.tuple #[u,.bool (qp p)])/\(qp p=true->u=dF p pv fv av)/\(qp p=false->u=.agg #[.string ⟨#[]⟩,.slice none 0 0,.slice none 0 0,.slice none 0 0,.bool false,.bool false]))/\Below w.heap.size w w':=by
 obtain⟨pa,pc,rfl⟩:=h.props.form;obtain⟨fa,fc,rfl⟩:=h.aJ.form;obtain⟨aa,ac,rfl⟩:=h.ats.form;have hB:=h.lt;obtain⟨B0,Q0⟩:=Qa.nb p pa fa aa pc fc ac w;have wX:=hid (h.below B0.o hB);have B1:Hid (Below w.heap.size w ((w.alloc (.cells #[.string p.root,.slice pa p.props.length pc,.slice fa p.aJ.length fc,.slice aa p.ats.length ac,.bool p.aU,.bool p.texts] 41)).alloc (.cells #[.string ⟨#[]⟩,.slice none 0 0,.slice none 0 0,.slice none 0 0,.bool false,.bool false] 82))):=B0.o.alloc Ab _
 have X1:Hid (Below (w.alloc (.cells #[.string p.root,.slice pa p.props.length pc,.slice fa p.aJ.length fc,.slice aa p.ats.length ac,.bool p.aU,.bool p.texts] 41)).heap.size (w.alloc (.cells #[.string p.root,.slice pa p.props.length pc,.slice fa p.aJ.length fc,.slice aa p.ats.length ac,.bool p.aU,.bool p.texts] 41)) ((w.alloc (.cells #[.string p.root,.slice pa p.props.length pc,.slice fa p.aJ.length fc,.slice aa p.ats.length ac,.bool p.aU,.bool p.texts] 41)).alloc (.cells #[.string ⟨#[]⟩,.slice none 0 0,.slice none 0 0,.slice none 0 0,.bool false,.bool false] 82))):=Ax.alloc nl _
 have Q1:=hid (Q0.o.below X1.o Q0.o.lt);have HP1:=hid (wX.o.below X1.o wX.o.lt)
 have R1:Hid (Q6 ((w.alloc (.cells #[.string p.root,.slice pa p.props.length pc,.slice fa p.aJ.length fc,.slice aa p.ats.length ac,.bool p.aU,.bool p.texts] 41)).alloc (.cells #[.string ⟨#[]⟩,.slice none 0 0,.slice none 0 0,.slice none 0 0,.bool false,.bool false] 82)) (w.heap.size+1) (.string ⟨#[]⟩) (.slice none 0 0) (.slice none 0 0) (.slice none 0 0) (.bool false) (.bool false)):=by have:=Q6.new (w.alloc (.cells #[.string p.root,.slice pa p.props.length pc,.slice fa p.aJ.length fc,.slice aa p.ats.length ac,.bool p.aU,.bool p.texts] 41)) (.string ⟨#[]⟩) (.slice none 0 0) (.slice none 0 0) (.slice none 0 0) (.bool false) (.bool false);rw[show(w.alloc (.cells #[.string p.root,.slice pa p.props.length pc,.slice fa p.aJ.length fc,.slice aa p.ats.length ac,.bool p.aU,.bool p.texts] 41)).heap.size=w.heap.size+1 by simp]at this;exact this
 clear h Q0 wX X1;unfold dF;go_in;go_upto_region 1 with fail
 generalize(w.alloc (.cells #[.string p.root,.slice pa p.props.length pc,.slice fa p.aJ.length fc,.slice aa p.ats.length ac,.bool p.aU,.bool p.texts] 41)).alloc (.cells #[.string ⟨#[]⟩,.slice none 0 0,.slice none 0 0,.slice none 0 0,.bool false,.bool false] 82)=w1 at *;obtain⟨q0,q1,q2,q3,q4,q5⟩:=Q1.o.cs;have hs1:=B1.o.size;have HC:=Wp B p _ _ _ w1 HP1.o hr;unfold dF at HC;obtain⟨z,Hz⟩:=Nm (qp p);rw[Hz.o]at HC;have HC':Hid (Calls prog 66 #[.agg #[.string p.root,.slice pa p.props.length pc,.slice fa p.aJ.length fc,.slice aa p.ats.length ac,.bool p.aU,.bool p.texts]] w1 fun e w'=>e=.returned (.bool z)/\Below w1.heap.size w1 w'):=HC;clear HC HP1;go_wp2_with fail;refine HC'.o.mono ?_;rintro e w2 ⟨rfl,hb2⟩;have B2:=hid (B1.o.trans (hb2.mono hs1))
 have R2:=hid (R1.o.below hb2 R1.o.lt);have Q2:=hid (Q1.o.below hb2 Q1.o.lt);clear hb2 HC' q0 q1 q2 q3 q4 q5 Q1 R1;obtain⟨q0,q1,q2,q3,q4,q5⟩:=Q2.o.cs;obtain⟨r0,r1,r2,r3,r4,r5⟩:=R2.o.cs;have z0:=R2.o.fz 0;have z1:=R2.o.fz 1;have z2:=R2.o.fz 2;have z3:=R2.o.fz 3;have z4:=R2.o.fz 4;have z5:=R2.o.fz 5;cases z
 .go_wp2_with fail;refine bodyPost_ret (v:=.tuple #[.agg #[.string ⟨#[]⟩,.slice none 0 0,.slice none 0 0,.slice none 0 0,.bool false,.bool false],.bool false]) (by simp[results,Tryz.results39,go_sem,r0,r1,r2,r3,r4,r5]) rfl ?_;refine⟨⟨_,by rw[Hz.o],(by rw[Hz.o];intro h;cases h),fun _=>rfl⟩,?_⟩;exact Je B2.o oo _ _ _ _ _ _
 .go_wp2_with fail;refine bodyPost_ret (v:=.tuple #[.agg #[.string p.root,.slice pa p.props.length pc,.slice fa p.aJ.length fc,.slice aa p.ats.length ac,.bool p.aU,.bool p.texts],.bool true]) (by simp[results,Tryz.results39,go_sem,r0,r1,r2,r3,r4,r5]) rfl ?_;refine⟨⟨_,by rw[Hz.o],fun _=>rfl,by rw[Hz.o];intro h;cases h⟩,?_⟩;exact Je B2.o oo _ _ _ _ _ _
end
def yg(h b:BY):BY:=if b=aA then aA else h++(b1 123++(b++b1 125))
theorem RU(h b:BY)(w:WD)(hs:h.size+b.size<=1099511627770):Calls prog 118 #[.string h,.string b] w fun e w'=>e=.returned (.string (yg h b))/\Below w.heap.size w w':=by
 by_cases he:b.toList=[]
 .have hn:b=aA:=by
   have:=ay b [];rw[he]at this;exact of_decide_eq_true this.symm
  have HV:Hid (yg h b=aA):=by show _=_;unfold yg;rw[if_pos hn]
  clear hn;go_in;go_wp2_with fail;go_ret;exact⟨mg HV.o.symm,Ax⟩
 .have hn:¬b=aA:=fun e=>he (by rw[e,fC];rfl);have hib:(b.toList==[])=false:=by cases hq:b.toList with|nil=>exact absurd hq he|cons _ _=>rfl
  have HV:Hid (aG [h,⟨#[123]⟩,b,⟨#[125]⟩]=yg h b):=by show _=_;unfold yg;rw[if_neg hn];simp[aG,b1]
  clear hn;go_in;go_wp2_with fail;refine pmb (dQ [h,⟨#[123]⟩,b,⟨#[125]⟩] w.heap.size _ _ (row4 w h ⟨#[123]⟩ b ⟨#[125]⟩) Ab (by show h.size+(1+(b.size+(1+0)))<=_;omega)) fun w5 hb5=>?_;have B5:Hid (Below w.heap.size w w5):=(bf w _).trans (hb5.mono Ab);clear hb5;go_wp2_with fail;go_ret;exact⟨mg HV.o,B5.o⟩
theorem aaA(d:Dec):(jW d).size<=4*d.prop.size+dL d.val+20:=by
 have h1:=fQ d.prop;have h2:=jP d.val;have e:(b1 58).size=1:=rfl;have e2:(if d.imp=true then ZX else aA).size<=10:=by split<;>decide
 unfold jW;rw[ByteArray.size_append,ByteArray.size_append,ByteArray.size_append,e];omega
theorem LK(B:Nat)(d:Dec)(vv:Av)(w:WD)(h:Sl (fun b=>b<B) w vv d.val)(hB:B<=w.heap.size)(hp:d.prop.size<=4000000)(hz:dL d.val<=549755813888):
  Calls prog 194 #[.agg #[.string d.prop,vv,.bool d.imp]] w fun e w'=>e=.returned (.string (jW d))/\Below w.heap.size w w':=by
 obtain⟨va,vc,rfl⟩:=h.form;have B2:Hid (Below w.heap.size w (w.alloc (.cells #[.string d.prop,.slice va d.val.length vc,.bool d.imp] 181)).drew):=xJ _ _;have A2:Hid (Q3 181 (w.alloc (.cells #[.string d.prop,.slice va d.val.length vc,.bool d.imp] 181)).drew w.heap.size (.string d.prop) (.slice va d.val.length vc) (.bool d.imp)):=Q3.new _ _ _ _ _;have S2:Hid (Sl (fun b=>b<B) (w.alloc (.cells #[.string d.prop,.slice va d.val.length vc,.bool d.imp] 181)).drew (.slice va d.val.length vc) d.val):=h.below B2.o hB;clear h;obtain⟨nm,Aw⟩:=Nm (dP d.prop);obtain⟨tx,Gv⟩:=Nm (Sp.written d.val);have hs1:nm.size<=4*d.prop.size:=by rw[<-Aw.o];exact fQ _
 have hs3:tx.size<=dL d.val:=by rw[<-Gv.o];exact jP _
 cases hi:d.imp;focus
  rw[hi]at B2 A2 S2;have HV:Hid (aG [nm,⟨#[58]⟩,tx,⟨#[]⟩]=jW d):=by show _=_;unfold jW;rw[Aw.o,Gv.o,hi];simp[aG,b1,aA]
  go_in;go_wp2_with fail;refine wp_region_any Ao ?_;change wpAny _ _ _ _ _ _ _ (World.drew _);generalize(w.alloc (.cells #[.string d.prop,.slice va d.val.length vc,.bool false] 181)).drew=w2 at *;have hsz2:=B2.o.size;refine wpAny_of_held (S:=fun wx=>Q3 181 wx w.heap.size (.string d.prop) (.slice va d.val.length vc) (.bool false)) _ _ _ _ ?_;refine dH 0 rfl A2.o (by intro w hSw;obtain⟨a0,a1,a2⟩:=hSw.cs;exact gs) ?_;refine dH 1 rfl A2.o (by intro w hSw;obtain⟨a0,a1,a2⟩:=hSw.cs;exact gs) ?_;refine dH 3 rfl A2.o (by intro w hSw;obtain⟨a0,a1,a2⟩:=hSw.cs;exact gs) ?_;refine dH 4 rfl A2.o (by intro w hSw;obtain⟨a0,a1,a2⟩:=hSw.cs;exact gs) ?_
  refine dH 6 rfl A2.o (by intro w hSw;obtain⟨a0,a1,a2⟩:=hSw.cs;exact gs) ?_;refine iW 2 fun K hK=>?_;go_simp;refine(oW d.prop _ hp).mono ?_;rw[Aw.o];rintro e w3 ⟨rfl,hb3⟩;have B3:=hid (B2.o.trans (hb3.mono hsz2));have A4:=hid (A2.o.below hb3);have S3:=hid (S2.o.below hb3 oo);have hsz3:=B3.o.size;clear hb3 S2;refine hK.o _ _ A4.o (fun _=>?_);clear hK K;refine iW 5 fun K hK=>?_;go_simp;refine(uq d.val B _ w3 S3.o oo hz).mono ?_;rw[Gv.o];rintro e w4 ⟨rfl,hb4⟩;have B4:=hid (B3.o.trans (hb4.mono hsz3));have A5:=hid (A4.o.below hb4);have ajq:=B4.o.size;clear hb4
  refine hK.o _ _ A5.o (fun _=>?_);clear hK K;refine iW 7 fun K hK=>?_;go_simp;refine hK.o _ _ (A5.o.below (bf _ _)) (fun _=>?_);clear hK K;refine iW 8 fun K hK=>?_;go_simp;refine pmb (dQ [nm,⟨#[58]⟩,tx,⟨#[]⟩] w4.heap.size _ _ (row4 w4 nm ⟨#[58]⟩ tx ⟨#[]⟩) Ab (by show nm.size+(1+(tx.size+(0+0)))<=_;omega)) fun w5 hb5=>?_;have B5:Hid (Below w.heap.size w w5):=(B4.o.alloc ajq _).trans (hb5.mono An);have A6:Hid (Q3 181 w5 w.heap.size (.string d.prop) (.slice va d.val.length vc) (.bool false)):=(A5.o.below (bf _ _)).below hb5
 rotate_left;focus
  rw[hi]at B2 A2 S2;have HV:Hid (aG [nm,⟨#[58]⟩,tx,⟨#[33,105,109,112,111,114,116,97,110,116]⟩]=jW d):=by show _=_;unfold jW;rw[Aw.o,Gv.o,hi];simp[aG,b1,ZX]
  go_in;go_wp2_with fail;refine wp_region_any Ao ?_;change wpAny _ _ _ _ _ _ _ (World.drew _);generalize(w.alloc (.cells #[.string d.prop,.slice va d.val.length vc,.bool true] 181)).drew=w2 at *;have hsz2:=B2.o.size;refine wpAny_of_held (S:=fun wx=>Q3 181 wx w.heap.size (.string d.prop) (.slice va d.val.length vc) (.bool true)) _ _ _ _ ?_;refine dH 0 rfl A2.o (by intro w hSw;obtain⟨a0,a1,a2⟩:=hSw.cs;exact gs) ?_;refine dH 1 rfl A2.o (by intro w hSw;obtain⟨a0,a1,a2⟩:=hSw.cs;exact gs) ?_;refine dH 3 rfl A2.o (by intro w hSw;obtain⟨a0,a1,a2⟩:=hSw.cs;exact gs) ?_;refine dH 4 rfl A2.o (by intro w hSw;obtain⟨a0,a1,a2⟩:=hSw.cs;exact gs) ?_
  refine dH 6 rfl A2.o (by intro w hSw;obtain⟨a0,a1,a2⟩:=hSw.cs;exact gs) ?_;refine iW 2 fun K hK=>?_;go_simp;refine(oW d.prop _ hp).mono ?_;rw[Aw.o];rintro e w3 ⟨rfl,hb3⟩;have B3:=hid (B2.o.trans (hb3.mono hsz2));have A4:=hid (A2.o.below hb3);have S3:=hid (S2.o.below hb3 oo);have hsz3:=B3.o.size;clear hb3 S2;refine hK.o _ _ A4.o (fun _=>?_);clear hK K;refine iW 5 fun K hK=>?_;go_simp;refine(uq d.val B _ w3 S3.o oo hz).mono ?_;rw[Gv.o];rintro e w4 ⟨rfl,hb4⟩;have B4:=hid (B3.o.trans (hb4.mono hsz3));have A5:=hid (A4.o.below hb4);have ajq:=B4.o.size;clear hb4
  refine hK.o _ _ A5.o (fun _=>?_);clear hK K;refine iW 7 fun K hK=>?_;go_simp;refine hK.o _ _ (A5.o.below (bf _ _)) (fun _=>?_);clear hK K;refine iW 8 fun K hK=>?_;go_simp;refine pmb (dQ [nm,⟨#[58]⟩,tx,⟨#[33,105,109,112,111,114,116,97,110,116]⟩] w4.heap.size _ _ (row4 w4 nm ⟨#[58]⟩ tx _) Ab (by show nm.size+(1+(tx.size+(10+0)))<=_;omega)) fun w5 hb5=>?_;have B5:Hid (Below w.heap.size w w5):=(B4.o.alloc ajq _).trans (hb5.mono An);have A6:Hid (Q3 181 w5 w.heap.size (.string d.prop) (.slice va d.val.length vc) (.bool true)):=(A5.o.below (bf _ _)).below hb5
 rotate_left;all_goals
  clear hb5;refine hK.o _ _ A6.o (fun _=>?_);clear hK K;refine iW 9 fun K hK=>?_;go_simp;refine hK.o _ _ (A6.o) (fun _=>?_);clear hK K;refine wpAnyH_done Ao ?_ _;go_wp2_with fail;go_ret;exact⟨mg HV.o,B5.o⟩
theorem Jf(h:List Nd):(qE h).size<=dL h+1:=by
 unfold qE;split
 .show 0<=_;omega
 .have:=jP h;rw[ByteArray.size_append];show 1+_<=_;omega
theorem ac0(B:Nat)(nm:BY)(hd:List Nd)(v:Av)(w:WD)(h:Sl (fun b=>b<B) w v hd)(hB:B<=w.heap.size)(hn:nm.size<=4000000)(hz:dL hd<=549755813888):
  Calls prog 119 #[.string nm,v] w fun e w'=>e=.returned (.string (b1 64++(dP nm++qE hd)))/\Below w.heap.size w w':=by
 have hl:=h.len;have HS:=hid h;obtain⟨va,vc,rfl⟩:=h.form;clear h;obtain⟨o,Ho⟩:=Nm (dP nm);have hs1:o.size<=4*nm.size:=by rw[<-Ho.o];exact fQ _
 rw[Ho.o];obtain⟨q,Hq⟩:=Nm (aG [⟨#[64]⟩,o]);have HQ2:Hid (q=b1 64++o):=by show _=_;rw[<-Hq.o];simp[aG,b1]
 have hsq:q.size<=4*nm.size+1:=by rw[HQ2.o,ByteArray.size_append];show 1+o.size<=_;omega
 go_in;go_wp2_with fail;refine(oW nm _ hn).mono ?_;rw[Ho.o];rintro e w1 ⟨rfl,hb1⟩;have B1:=hid hb1;have hw1:=hb1.size;clear hb1;go_wp2_with fail;refine(dQ [⟨#[64]⟩,o] w1.heap.size _ _ (rw2 w1 ⟨#[64]⟩ o) Ab (by show 1+(o.size+0)<=_;omega)).mono ?_;rw[Hq.o];rintro e w2 ⟨rfl,hb2⟩;have B2:Hid (Below w.heap.size w w2):=(B1.o.alloc hw1 _).trans (hb2.mono An);have hw2:=B2.o.size;clear hb2;by_cases hz0:hd.length=0
 .obtain rfl:hd=[]:=List.eq_nil_of_length_eq_zero hz0;have HV:Hid (q=b1 64++(o++qE [])):=by show _=_;rw[HQ2.o];show _=b1 64++(o++aA);rw[mO]
  clear hz0;go_wp2_with fail;go_ret;exact⟨mg HV.o,B2.o⟩
 .have hne:(((hd.length:Nat):Int)==0)=false:=by rw[beq_eq_false_iff_ne];omega
  obtain⟨tx,Gv⟩:=Nm (Sp.written hd);have hs3:tx.size<=dL hd:=by rw[<-Gv.o];exact jP _
  have HV:Hid (aG [q,⟨#[32]⟩,tx]=b1 64++(o++qE hd)):=by show _=_;unfold qE;rw[if_neg (by rintro rfl;simp at hz0),Gv.o,HQ2.o];simp[aG,b1,ByteArray.append_assoc]
  clear hz0;go_wp2_with fail;refine(uq hd B _ w2 (HS.o.below B2.o hB) oo hz).mono ?_;rw[Gv.o];rintro e w4 ⟨rfl,hb4⟩;have B4:=hid (B2.o.trans (hb4.mono hw2));have hw4:=B4.o.size;clear hb4;go_wp2_with fail;refine pmb (dQ [q,⟨#[32]⟩,tx] w4.heap.size _ _ (row3 w4 q ⟨#[32]⟩ tx) Ab (by show q.size+(1+(tx.size+0))<=_;omega)) fun w5 hb5=>?_;have B5:Hid (Below w.heap.size w w5):=(B4.o.alloc hw4 _).trans (hb5.mono An);clear hb5;go_wp2_with fail;go_ret;exact⟨mg HV.o,B5.o⟩
theorem YN(ok:Nat->UInt8->Bool):∀(l:List UInt8) (i:Nat),(∀j (h:j<l.length),ok (i+j) l[j]=true)->BP ok i l=⟨l.toArray⟩
 |[],i,_=>rfl
 |c::r,i,h=>by
  have h0:=h 0 Ab;simp at h0;unfold BP;rw[if_pos h0,YN ok r (i+1) (fun j hj=>by have:=h (j+1) (by simpa using hj);simpa[Nat.add_assoc,Nat.add_comm 1 j]using this)];apply ByteArray.ext
  rw[ByteArray.data_append];simp[b1]
theorem aaB{s:BY}(h:allB jh s=true):dP s=s:=by
 unfold dP;rw[YN];intro j hj;have hc:jh s.data.toList[j]=true:=by unfold allB at h;rw[List.all_eq_true]at h;exact h _ (List.getElem_mem _)
 generalize s.data.toList[j]=c at *;unfold jh at hc;simp only[Bool.and_eq_true,decide_eq_true_eq]at hc;unfold dZ oV oU;rw[if_neg (by simp;omega),if_neg (by rintro rfl;simp at hc)];simp;omega
def jc(root:BY):BY:=if root=aA then aA else b1 46++(root++b1 32)
theorem Jg[bV](a:BY):∀(r:bY) (c:List Step),jX (b1 44) ((c::r).map (fun x=>a++dW x))=a++(dW c++qC a r)
 |[],c=>by show a++dW c=a++(dW c++qC a []);unfold qC;rw[mO]
 |d::q,c=>by
  have ih:=Jg a q d;show(a++dW c)++(b1 44++jX (b1 44) ((d::q).map (fun x=>a++dW x)))=_;rw[ih];conv=>rhs;unfold qC
  simp only[ByteArray.append_assoc]
theorem AX[bV](a:BY)(ss:bY):jX (b1 44) (ss.map (fun x=>a++dW x))=jV a ss:=by
 cases ss with
 |nil=>rfl
 |cons c r=>rw[Jg];unfold jV;rfl
theorem zf[bV](hd:jm)(a:BY):∀(ss:bY),CO ss->total (ss.map (fun x=>a++dW x))+ss.length<=zL ss+ss.length*a.size
 |[],_=>by simp[total]
 |c::r,hq=>by simp only[CO]at hq;have:=zf hd a r hq.2;have:=qL hd c hq.1;unfold zL;simp only[List.map_cons,total,List.length_cons,ByteArray.size_append,Nat.add_mul];omega
theorem RV[bV](f B:Nat)(root:BY)(ss:bY)(v:Av)(w:WD)(h:SG (AA (aQ f)) 1 (fun b=>b<B) w v ss)(hB:B<=w.heap.size)(hI:jD w)(hq:CO ss)(hz:zL ss<=274877906944)(hd:jm)(hr:allB jh root=true)(anr:root.size<=12):
  Calls prog 122 #[.string root,v] w fun e w'=>e=.returned (.string (jV (jc root) ss))/\Below w.heap.size w w':=by
 have hl:=h.len;have HS:=hid h;have HII:=hid hI;have HQ:=hid hq;have hF:Hid (Fair (fO (aQ f))):=fO.fair (aQ.fair f);obtain⟨a,cap,rfl⟩:=h.form;obtain⟨ah,Hah⟩:=Nm (jc root);have amK:ah.size<=14:=by
  rw[<-Hah.o];unfold jc;split
  .show 0<=14;omega
  .rw[ByteArray.size_append,ByteArray.size_append];show 1+(_+1)<=14;omega
 have Lm:Hid (jX (b1 44) (ss.map (fun x=>ah++dW x))=jV ah ss):=AX ah ss;have htot:=zf hd ah ss hq;have hml:ss.length*ah.size<=2097152*14:=Nat.mul_le_mul hl amK;have hnm:dP root=root:=aaB hr;rw[Hah.o];clear h hI hq hr;obtain⟨iS,wK⟩:=info_str;have HI:=hid wK;clear wK;go_in;go_upto_if 10 with fail;go_cut [5] (fun s5 wx=>s5=.string ah/\Below w.heap.size w wx);case first=>
  by_cases he:root.toList=[]
  .have hn:root=aA:=by
    have:=ay root [];rw[he]at this;exact of_decide_eq_true this.symm
   have HA:Hid (ah=⟨#[]⟩):=by show _=_;rw[<-Hah.o];unfold jc;rw[if_pos hn];rfl
   clear hn;have hie:root.toList.isEmpty=true:=by rw[he];rfl
   rw[hie,Bool.not_true];go_wp2_with fail;go_meet
   exact⟨by rw[HA.o],Ax⟩
  .have hn:¬root=aA:=fun e=>he (by rw[e,fC];rfl);have hie:root.toList.isEmpty=false:=by cases hq:root.toList with|nil=>exact absurd hq he|cons _ _=>rfl
   have HA:Hid (aG [⟨#[46]⟩,root,⟨#[32]⟩]=ah):=by show _=_;rw[<-Hah.o];unfold jc;rw[if_neg hn];simp[aG,b1]
   clear hn;have HNC:=oW root w oo;rw[hnm]at HNC;have HN:=hid HNC;clear HNC hnm;rw[hie,Bool.not_false];go_wp2_with fail;refine HN.o.mono ?_;rintro e w1 ⟨rfl,hb1⟩;have B1:=hid hb1;have hw1:=hb1.size;clear hb1;go_wp2_with fail;refine(dQ [⟨#[46]⟩,root,⟨#[32]⟩] w1.heap.size _ _ (row3 w1 ⟨#[46]⟩ root ⟨#[32]⟩) Ab (by show 1+(root.size+(1+0))<=_;omega)).mono ?_;rw[HA.o];rintro e w2 ⟨rfl,hb2⟩;have B2:Hid (Below w.heap.size w w2):=(B1.o.alloc hw1 _).trans (hb2.mono An);clear hb2;go_wp2_with fail;go_meet
   exact⟨rfl,B2.o⟩
 case rest=>
  obtain⟨rfl,hbc⟩:=hcut;have BC:=hid hbc;clear hbc hnm;go_wp2_with fail;go_loopg[6,17] ss.length (fun gg v6 v17 wr=>∃(u:Av) (i:Nat),u=v6/\v17=.int .i64 (i:Int)/\i+gg=ss.length/\Aside (wr.ownsRow w.heap.size 9 1 u i (((ss.take i).map (fun x=>ah++dW x)).map Value.string)/\Below w.heap.size w wr));case atStart=>exact⟨_,0,rfl,rfl,oo,World.ownsRow_nil _ _ _ _,BC.o⟩
  case round=>
   obtain⟨u,i,rfl,rfl,hi,hA⟩:=hrel;have O1:=hid hA.o.1;have B1:=hid hA.o.2;clear hA;have hsr:=B1.o.size;by_cases hlt:i<ss.length
   .have h1:(i:Int)<(ss.length:Int):=oo;obtain⟨g,o,rfl,hL,hcap⟩:=HS.o.here (by rintro rfl;simp at hlt);have hgB:g<B:=(hL.at ss g o i hlt).1;obtain⟨cv,d0,hcv⟩:=hL.cpx (i:=i) hlt;rw[<-B1.o.cell (p:=⟨g,_,none⟩) (show g<w.heap.size by omega)]at d0;have HT:Hid (ss.take (i+1)=ss.take i++[ss[i]]):=List.take_succ_eq_append_getElem hlt;have hqc:=VG ss i HQ.o hlt;have hzc:=VR ss i hlt;obtain⟨cx,hcx⟩:∃c,c=ss[i]:=⟨_,rfl⟩;rw[<-hcx]at hcv HT hqc hzc;obtain⟨ca,cc,rfl⟩:=hcv.form;have hxs:=qL hd cx hqc;have HW:Hid (Calls prog 191 #[.slice ca cx.length cc] wr fun e w'=>e=.returned (.string (dW cx))/\Below wr.heap.size wr w'):=
     ajc f B cx _ wr (hcv.below hF.o B1.o hB) oo (HII.o.below B1.o nl) hqc oo hd
    clear hL hcx hcv hqc;go_wp2_with fail;refine HW.o.mono ?_;obtain⟨x,Hx⟩:=Nm (dW cx);rw[Hx.o]at hxs;rw[Hx.o];rintro e w2 ⟨rfl,hb2⟩;have B2:=hid (B1.o.trans (hb2.mono hsr));have O2:Hid (w2.ownsRow w.heap.size 9 1 u i (((ss.take i).map (fun x=>ah++dW x)).map Value.string)):=aP O1.o fun r hr=>hb2.block r (O1.o.lt r hr).2;have hs2:=B2.o.size;clear hb2 HW d0;go_wp2_with fail;refine(dQ [ah,x] w2.heap.size _ _ (rw2 w2 ah x) Ab (by show ah.size+(x.size+0)<=_;omega)).mono ?_;obtain⟨y,Hy⟩:=Nm (aG [ah,x]);have HY:Hid (y=ah++x):=by show _=_;rw[<-Hy.o];simp[aG]
    rw[Hy.o];rintro e w3 ⟨rfl,hb3⟩;have X3:Hid (Below w2.heap.size w2 w3):=(bf w2 _).trans (hb3.mono Ab);have B3:=hid (B2.o.trans (X3.o.mono hs2));have O3:Hid (w3.ownsRow w.heap.size 9 1 u i (((ss.take i).map (fun x=>ah++dW x)).map Value.string)):=aP O2.o fun r hr=>X3.o.block r (O2.o.lt r hr).2;have hs3:=B3.o.size;clear hb3;obtain⟨zs,Hzs⟩:=Nm ((ss.take i).map (fun x=>ah++dW x));rw[Hzs.o]at O3;have hzl:zs.length=i:=by rw[<-Hzs.o,List.length_map,List.length_take];omega
    clear O1 O2;go_wp2_with(at_builtin;go_must(refine wpList_append_own _ rfl _ _ 26 rfl w.heap.size 9 iS (.string ⟨#[]⟩) 1 16 Tryz.underlying26 HI.o.1 HI.o.2.1 HI.o.2.2.1 HI.o.2.2.2 rfl oo u i (zs.map Value.string) rfl (O3.o.alloc _) ⟨w3.heap.size,0,none⟩ 1 1 [.string y] rfl rfl (cell_one_new _ _ _) (aT _) As oo An ?_));intro v4 w4 hown4 dS _;have O4:Hid (w4.ownsRow w.heap.size 9 1 v4 (i+1) (((ss.take (i+1)).map (fun x=>ah++dW x)).map Value.string)):=by show World.ownsRow _ _ _ _ _ _ _;rw[HT.o,List.map_append,List.map_append,List.map_cons,List.map_nil,Hx.o,<-HY.o,Hzs.o];exact hown4
    have B4:Hid (Below w.heap.size w w4):=(B3.o.alloc hs3 _).grown dS An (fun rr hr=>(O3.o.lt rr hr).1);clear hown4 dS;go_wp2_with fail;go_roundg(gk-1);case measure=>omega
    case rel=>exact⟨v4,i+1,rfl,by congr 1,oo,O4.o,B4.o⟩
   .have h1:(ss.length:Int)<=(i:Int):=oo;have hie:i=ss.length:=oo;subst hie;obtain⟨zs,Hzs⟩:=Nm (ss.map (fun x=>ah++dW x));have hzl:zs.length=ss.length:=by rw[<-Hzs.o,List.length_map]
    have O5:Hid (wr.ownsRow w.heap.size 9 1 u zs.length (zs.map Value.string)):=by have:=O1.o;rw[List.take_of_length_le nl,Hzs.o]at this;show World.ownsRow _ _ _ _ _ _ _;rw[hzl];exact this
    rw[Hzs.o]at htot Lm;go_wp2_with fail;refine(Ii (b1 44) zs w.heap.size u _ O5.o oo (by unfold acj;show _+zs.length*1<=_;omega)).mono ?_;rw[Lm.o];rintro e w5 ⟨rfl,hb5⟩;have B5:=hid (B1.o.trans (hb5.mono hsr));clear hb5;go_wp2_with fail;go_ret;exact⟨rfl,B5.o⟩
theorem jK.mono{B B':Nat}{w:WD}{p:aF}{pv fv av:Av}(h:jK B w p pv fv av)(hB:B<=B')(hw:B'<=w.heap.size):jK B' w p pv fv av:=⟨h.props.mono eX.fair hB,h.aJ.mono eX.fair hB,h.ats.mono eX.fair hB,hw⟩
def dz(d:Dec):Nat:=4*d.prop.size+dL d.val+24
def Qk:List Dec->Nat
 |[]=>0
 |d::r=>dz d+Qk r
theorem ac1:∀(l:List Dec) (i:Nat) (h:i<l.length),dz l[i]<=Qk l
 |d::r,0,_=>by unfold Qk;simp
 |d::r,i+1,h=>by have:=ac1 r i (by simpa using h);unfold Qk;simp only[List.getElem_cons_succ];omega
theorem Jh(p:aF):∀(l:List Dec),total ((l.filter (kR p)).map jW)+(l.filter (kR p)).length<=Qk l
 |[]=>by simp[total,Qk]
 |d::r=>by
  have ih:=Jh p r;have hs:=aaA d;unfold Qk dz;by_cases hk:kR p d=true
  .rw[List.filter_cons_of_pos hk];simp only[List.map_cons,total,List.length_cons];omega
  .rw[List.filter_cons_of_neg hk];omega
theorem RX{p:aF}{l:List Dec}{i:Nat}(h:i<l.length):((l.take (i+1)).filter (kR p)).map jW=((l.take i).filter (kR p)).map jW++(if kR p l[i]=true then [jW l[i]] else []):=by
 rw[List.take_succ_eq_append_getElem h,List.filter_append,List.map_append];congr 1
 by_cases hk:kR p l[i]=true
 .rw[List.filter_cons_of_pos hk,if_pos hk];rfl
 .rw[List.filter_cons_of_neg hk,if_neg hk];rfl
theorem LG.dec{S:Nat->Prop}{w:WD}{l:List Dec}{g o i:Nat}(h:LG vS 3 S w l g o)(hi:i<l.length):S g/\∃vv,w.cell? ⟨g,o+i*3,none⟩=some (.string l[i].prop)/\w.cell? ⟨g,o+i*3+1,none⟩=some vv/\w.cell? ⟨g,o+i*3+2,none⟩=some (.bool l[i].imp)/\Sl S w vv l[i].val/\l[i].prop.size<=4000000:=by obtain⟨h0,cs,⟨vv,rfl,hs,hp⟩,hc⟩:=h.at l g o i hi;refine⟨h0,vv,?_,hc 1 _ rfl,hc 2 _ rfl,hs,hp⟩;have:=hc 0 _ rfl;rwa[Nat.add_zero]at this
theorem Ji(B:Nat)(p:aF)(pv fv av:Av)(l:List Nd)(v:Av)(w:WD)(hP:jK B w p pv fv av)(h:Sl (fun b=>b<B) w v l)(hk:∀d∈decls l,OJ d.val)(hz:Qk (decls l)<=274877906944):
  Calls prog 124 #[dF p pv fv av,v] w fun e w'=>e=.returned (.string (tX p l))/\Below w.heap.size w w':=by
 have hB:=hP.lt;obtain⟨a,cap,rfl⟩:=h.form;obtain⟨pa,pc,rfl⟩:=hP.props.form;obtain⟨fa,fc,rfl⟩:=hP.aJ.form;obtain⟨aa,ac,rfl⟩:=hP.ats.form;obtain⟨ds,Hds⟩:=Nm (decls l);have HK:Hid (∀d∈ds,OJ d.val):=by rw[<-Hds.o];exact hk
 rw[Hds.o]at hz;have HBO:Hid (jX (b1 59) ((ds.filter (kR p)).map jW)=tX p l):=by show _=_;unfold tX;rw[Hds.o]
 have htot:=Jh p ds;clear hk;obtain⟨iS,wK⟩:=info_str;have HI:=hid wK;clear wK;obtain⟨B0,Q0⟩:=Q6.nb p pa fa aa pc fc ac w;have wX:=hid (hP.below B0.o hB);have HS0:=hid (h.below B0.o hB);clear hP h;unfold dF;go_in;go_upto_region 1 with fail
 have hsz0:=B0.o.size;have hlt0:=Q0.o.lt;generalize w.alloc (.cells #[.string p.root,.slice pa p.props.length pc,.slice fa p.aJ.length fc,.slice aa p.ats.length ac,.bool p.aU,.bool p.texts] 82)=w0 at *;obtain⟨rb,zV⟩:=Nm w.heap.size;rw[zV.o]at B0 Q0 hB hlt0 hsz0⊢;go_wp2_with fail;refine(IK B l _ w0 HS0.o oo).mono ?_;rw[Hds.o];rintro e w1 ⟨u1,rfl,hsg,hb1⟩;obtain⟨da,dc,rfl⟩:=hsg.form;have hdl:=hsg.len;have B1:=hid hb1;have Rn:=hid hsg;have hs1:=hb1.size;have Q1:=hid (Q0.o.below hb1 hlt0)
 have HP1:=hid ((wX.o.below hb1 oo).mono oo nl);clear hsg hb1 HS0 wX Q0;go_wp2_with fail;go_loopg[5,11] ds.length (fun gg v5 v11 wr=>∃(u:Av) (i:Nat),u=v5/\v11=.int .i64 (i:Int)/\i+gg=ds.length/\Aside (wr.ownsRow w1.heap.size 9 1 u (((ds.take i).filter (kR p)).map jW).length ((((ds.take i).filter (kR p)).map jW).map Value.string)/\Below w1.heap.size w1 wr));case atStart=>exact⟨_,0,rfl,rfl,oo,World.ownsRow_nil _ _ _ _,Ax⟩
 case round=>
  obtain⟨u,i,rfl,rfl,hi,hA⟩:=hrel;have O1:=hid hA.o.1;have BR:=hid hA.o.2;clear hA;have hsr:=BR.o.size;by_cases hlt:i<ds.length
  .have h1:(i:Int)<(ds.length:Int):=oo;obtain⟨g,o,rfl,hL,hcap⟩:=(Rn.o.below vS.fair BR.o nl).here (by rintro rfl;simp at hlt);obtain⟨hgB,vv,c0,c1,c2,hvv,hps⟩:=hL.dec (i:=i) hlt;have HT:Hid (((ds.take (i+1)).filter (kR p)).map jW=((ds.take i).filter (kR p)).map jW++(if kR p ds[i]=true then [jW ds[i]] else [])):=RX hlt;have hdz:=ac1 ds i hlt;have hkd:=HK.o ds[i] (List.getElem_mem _);obtain⟨d,hd⟩:∃d,d=ds[i]:=⟨_,rfl⟩;rw[<-hd]at c0 c2 hvv hps HT hdz hkd;have HVV:=hid hvv;have HKD:=hid hkd;have hvl:=hvv.len;obtain⟨va,vc,rfl⟩:=hvv.form;clear hL hd hvv hkd;have hzl:(((ds.take i).filter (kR p)).map jW).length<=i:=by rw[List.length_map];exact Nat.le_trans (List.length_filter_le _ _) (by rw[List.length_take];omega)
   obtain⟨ps,KP⟩:=Nm (((ds.take i).filter (kR p)).map jW);rw[KP.o]at O1 HT hzl;have D2:Hid (Q3 181 (wr.alloc (.cells #[.string d.prop,.slice va d.val.length vc,.bool d.imp] 181)) wr.heap.size (.string d.prop) (.slice va d.val.length vc) (.bool d.imp)):=Q3.new _ _ _ _ _;have X2:Hid (Below wr.heap.size wr (wr.alloc (.cells #[.string d.prop,.slice va d.val.length vc,.bool d.imp] 181))):=Ax.alloc nl _;go_upto_region 5 with fail
   generalize wr.alloc (.cells #[.string d.prop,.slice va d.val.length vc,.bool d.imp] 181)=w2 at *;obtain⟨gt,mV⟩:=Nm wr.heap.size;have D3:Hid (Q3 181 w2 gt (.string d.prop) (.slice va d.val.length vc) (.bool d.imp)):=by rw[<-mV.o];exact D2.o
   rw[mV.o];clear D2 c0 c1 c2;have B2:=hid (BR.o.trans (X2.o.mono hsr));have hs2:=X2.o.size;have O2:Hid (w2.ownsRow w1.heap.size 9 1 u ps.length (ps.map Value.string)):=aP O1.o fun r hr=>X2.o.block r (O1.o.lt r hr).2;obtain⟨a0,a1,a2⟩:=D3.o.cs;have Q2:=Q1.o.below B2.o oo;obtain⟨q0,q1,q2,q3,q4,q5⟩:=Q2.cs;clear Q2;have HDK:Hid (kR p d=((if custom d.prop=true then p.aU else p.props.contains d.prop)&&eH p d.val&&!d.val.isEmpty)):=rfl;have NO:Hid (∀wx,Below w2.heap.size w2 wx->kR p d=false->(wx.ownsRow w1.heap.size 9 1 u (((ds.take (i+1)).filter (kR p)).map jW).length ((((ds.take (i+1)).filter (kR p)).map jW).map Value.string))/\Below w1.heap.size w1 wx):=by intro wx hb hf;refine⟨?_,B2.o.trans (hb.mono oo)⟩;rw[HT.o,if_neg (by rw[hf];simp),List.append_nil];exact aP O2.o fun r hr=>hb.block r (O2.o.lt r hr).2
   by_cases hv0:d.val.length=0
   .have HF:Hid (kR p d=false):=by
     show _=_;rw[HDK.o,List.eq_nil_of_length_eq_zero hv0];simp
    have hvi:¬(0:Int)<(d.val.length:Int):=oo;have hvd:decide ((0:Int)<(d.val.length:Int))=false:=decide_eq_false hvi;clear hv0;go_wp2_with fail;go_roundg(gk-1);case measure=>omega
    case rel=>exact⟨u,i+1,rfl,by congr 1,oo,NO.o _ Ax HF.o⟩
   .have hvi:(0:Int)<(d.val.length:Int):=oo;have HNE:Hid (d.val.isEmpty=false):=by
     show _=_;cases hq:d.val with
     |nil=>rw[hq]at hv0;simp at hv0
     |cons _ _=>rfl
    have HPM:=F6 w1.heap.size p (.slice pa p.props.length pc) (.slice fa p.aJ.length fc) (.slice aa p.ats.length ac) w2 d.prop (HP1.o.below B2.o nl);obtain⟨z1,Hz1⟩:=Nm ((if custom d.prop=true then p.aU else p.props.contains d.prop));rw[Hz1.o]at HPM HDK;unfold dF at HPM;have alm:=hid HPM;clear HPM hv0;go_wp2_with fail;refine alm.o.mono ?_;rintro e w3 ⟨rfl,hb3⟩;have X3:=hid hb3;have D4:=hid (D3.o.below hb3);have hs3:=hb3.size;clear hb3 a0 a1 a2 q0 q1 q2 q3 q4 q5 alm;obtain⟨a0,a1,a2⟩:=D4.o.cs
    have B3:=hid (B2.o.trans (X3.o.mono oo));have Q3':=Q1.o.below B3.o oo;obtain⟨q0,q1,q2,q3,q4,q5⟩:=Q3'.cs;clear Q3';cases z1
    .have HF:Hid (kR p d=false):=HDK.o;go_wp2_with fail;go_roundg(gk-1);case measure=>omega
     case rel=>exact⟨u,i+1,rfl,by congr 1,oo,NO.o _ X3.o HF.o⟩
    .have HHM:=Dh d.val w1.heap.size p (.slice pa p.props.length pc) (.slice fa p.aJ.length fc) (.slice aa p.ats.length ac) (.slice va d.val.length vc) w3 (HP1.o.below B3.o nl) ((HVV.o.below X2.o oo).below X3.o oo) HKD.o;obtain⟨z2,Hz2⟩:=Nm (eH p d.val);rw[Hz2.o]at HHM HDK;unfold dF at HHM;have aln:=hid HHM;clear HHM;go_wp2_with fail;refine aln.o.mono ?_;rintro e w4 ⟨rfl,hb4⟩;have X4:=hid (X3.o.trans (hb4.mono hs3));have D5:=hid (D4.o.below hb4);have hs4:=X4.o.size
     clear hb4 a0 a1 a2 q0 q1 q2 q3 q4 q5 aln;obtain⟨a0,a1,a2⟩:=D5.o.cs;cases z2
     .have HF:Hid (kR p d=false):=HDK.o;go_wp2_with fail;go_roundg(gk-1);case measure=>omega
      case rel=>exact⟨u,i+1,rfl,by congr 1,oo,NO.o _ X4.o HF.o⟩
     .have HF:Hid (kR p d=true):=by show _=_;rw[HDK.o,HNE.o];rfl
      have hwz:dL d.val<=549755813888:=by unfold dz at hdz;omega
      have HDC:=LK w1.heap.size d (.slice va d.val.length vc) w4 ((HVV.o.below X2.o oo).below X4.o oo) oo hps hwz;have alo:=hid HDC;clear HDC;go_wp2_with fail;refine alo.o.mono ?_;obtain⟨y,Hy⟩:=Nm (jW d);rw[Hy.o];rintro e w5 ⟨rfl,hb5⟩;have X5:=hid (X4.o.trans (hb5.mono hs4));have B5:=hid (B2.o.trans (X5.o.mono oo));have O5:Hid (w5.ownsRow w1.heap.size 9 1 u ps.length (ps.map Value.string)):=aP O2.o fun r hr=>X5.o.block r (O2.o.lt r hr).2;have hs5:=B5.o.size;clear hb5 alo a0 a1 a2
      go_wp2_with(at_builtin;go_must(refine wpList_append_own _ rfl _ _ 26 rfl w1.heap.size 9 iS (.string ⟨#[]⟩) 1 16 Tryz.underlying26 HI.o.1 HI.o.2.1 HI.o.2.2.1 HI.o.2.2.2 rfl oo u ps.length (ps.map Value.string) rfl (O5.o.alloc _) ⟨w5.heap.size,0,none⟩ 1 1 [.string y] rfl rfl (cell_one_new _ _ _) (aT _) As oo An ?_));intro v6 w6 hown6 lS _;have O6:Hid (w6.ownsRow w1.heap.size 9 1 v6 (((ds.take (i+1)).filter (kR p)).map jW).length ((((ds.take (i+1)).filter (kR p)).map jW).map Value.string)):=by show World.ownsRow _ _ _ _ _ _ _;rw[HT.o,if_pos HF.o,Hy.o];first|(rw[List.length_append,List.map_append];exact hown6)|simpa using hown6
      have B6:Hid (Below w1.heap.size w1 w6):=(B5.o.alloc hs5 _).grown lS An (fun rr hr=>(O5.o.lt rr hr).1);clear hown6 lS;go_wp2_with fail;go_roundg(gk-1);case measure=>omega
      case rel=>exact⟨v6,i+1,rfl,by congr 1,oo,O6.o,B6.o⟩
  .have h1:(ds.length:Int)<=(i:Int):=oo;have O5:Hid (wr.ownsRow w1.heap.size 9 1 u ((ds.filter (kR p)).map jW).length (((ds.filter (kR p)).map jW).map Value.string)):=by
    have:=O1.o;rw[List.take_of_length_le oo]at this;exact this
   obtain⟨ps,KP⟩:=Nm ((ds.filter (kR p)).map jW);have hpl:ps.length=(ds.filter (kR p)).length:=by rw[<-KP.o,List.length_map]
   have hpf:(ds.filter (kR p)).length<=ds.length:=List.length_filter_le _ _;rw[KP.o]at O5 htot HBO;go_wp2_with fail;refine(Ii (b1 59) ps w1.heap.size u _ O5.o oo (by unfold acj;show _+ps.length*1<=_;omega)).mono ?_;rw[HBO.o];rintro e w5 ⟨rfl,hb5⟩;have B5:=hid (B0.o.trans ((B1.o.trans ((BR.o.trans (hb5.mono hsr)).mono hs1)).mono hsz0));clear hb5;go_wp2_with fail;go_ret;exact⟨rfl,by rw[zV.o];exact B5.o⟩
section
attribute [local go_sem] bI bJ aX aY
theorem aaC{nm:BY}(h:nm≠aA)(lv:Av)(p:Nat):fE 116 nm aA aA lv p=.iface 309 (.agg #[.string nm]):=by unfold fE;rw[if_pos rfl,if_neg h]
theorem Wq(lv:Av)(p:Nat):fE 116 aA aA aA lv p=.iface 311 (.agg #[]):=by unfold fE;rw[if_pos rfl,if_pos rfl]
theorem ac2{s:BY}(h:0<s.size):small s≠aA:=by
 intro e;have:=congrArg ByteArray.size e;have e2:(small s).size=s.size:=by show(s.data.toList.map jr).toArray.size=s.data.size;rw[List.size_toArray,List.length_map,Array.length_toList]
 rw[e2]at this;have:s.size=0:=this;omega
theorem Ws{rec:List Nd->Option bY}{l:List Nd}(nk:¬(hdN l).t.kind=14)(h:au (hdN l).t (b1 42)=false):aZ rec l=bZ rec [] l:=by
 unfold aZ kP;cases l with
 |nil=>rfl
 |cons n r=>have nk':¬n.t.kind=14:=nk;have h':au n.t (b1 42)=false:=h;simp only[dN,h',Bool.false_eq_true,if_false,if_neg nk']
theorem Wu{rec:List Nd->Option bY}{l:List Nd}(nk:¬(hdN l).t.kind=14)(h:au (hdN l).t (b1 42)=true):aZ rec l=bZ rec [Simple.of 116 aA] l.tail/\1+l.tail.length<=l.length:=by
 unfold aZ kP;cases l with
 |nil=>rw[xK]at h;cases h
 |cons n r=>have nk':¬n.t.kind=14:=nk;have h':au n.t (b1 42)=true:=h;simp only[dN,h',if_true,if_neg nk',List.tail_cons,List.length_cons,true_and];omega
theorem Np{rec:List Nd->Option bY}{l:List Nd}(hk:(hdN l).t.kind=14):aZ rec l=bZ rec [Simple.of 116 (small (hdN l).t.word)] l.tail/\1+l.tail.length<=l.length/\∃n r,l=n::r:=by
 unfold aZ kP;cases l with
 |nil=>exact absurd hk (by decide)
 |cons n r=>have hk':n.t.kind=14:=hk;simp only[if_pos hk',List.tail_cons,List.length_cons];exact⟨rfl,oo,_,_,rfl⟩
def NmL(l:List Nd):Prop:=∀n∈l,n.t.kind=14->0<n.t.word.size
theorem nO(w:WD)(x:Av)(t:TypeId):∀j u,[x][j]?=some u->(w.alloc (.cells #[x] t)).cell? ((⟨w.heap.size,0,none⟩:Addr).add j)=some u:=by intro j u hu;rw[Addr.add_lit,Nat.zero_add,World.cell?_alloc_mark,<-hu];simp
theorem Wv(f:Nat)(hR:Lh f)(B b:Nat)(sv:Av)(l:List Nd)(w:WD)(h:fV B w b sv l)(hd:uo f l)(hnm:NmL l):
  Calls prog 196 #[.pointer (some ⟨b,0,none⟩)] w fun e w'=>cpP f (aZ (dX f) l) B b w w' e/\Turn b w w':=by
 have R1:=hid h;have HR:=hid hR;have HD:Hid (uo f l):=hd;have HNM:=hid hnm;have hbw:b<w.heap.size:=h.lt;have FU:=h.len;clear h hR hd hnm;obtain⟨iT,hiT⟩:=aaj;have HI:=hid hiT;clear hiT;go_in;go_wp2_with fail;refine(Hg B b _ l _ R1.o).mono ?_;rintro e w1 ⟨kv1,rfl,_,hb1⟩;have R2:=hid (R1.o.below hb1);have T2:Hid (Turn b w w1):=Turn.of_below hb1;clear hb1 R1;unfold fB;go_upto_if 11 with fail;go_cut [4] (fun s4 wx=>∃(u:Av) (acc:List Simple) (cur:List Nd),u=s4/\acc.length+cur.length<=600/\Aside (CpI f B b w l u acc cur wx));case first=>
  cases hk:((hdN l).t.kind==14)
  .have nk:¬(hdN l).t.kind=14:=by simpa using hk
   go_wp2_with fail;refine(oP B b _ l (b1 42) _ R2.o).mono ?_;rintro e w3 ⟨Em,rfl,D7,Ox⟩;have T3:=hid (T2.o.trans Ox);have hs3:=T3.o.size;clear Ox;obtain⟨s1,Az⟩:=Nm (au (hdN l).t (b1 42));rw[Az.o];cases s1
   .have ac3:fV B w3 b Em l:=by rw[y5 Az.o]at D7;exact D7
    have HC:Hid (CpI f B b w l (.slice none 0 0) [] l w3):=⟨MG.nil _ _ _ _ _,⟨Em,ac3⟩,T3.o,Ws nk Az.o,HD.o,by simp⟩;clear D7 ac3 nk;go_wp2_with fail;go_meet
    exact⟨_,[],l,rfl,by simpa using FU,HC.o⟩
   .have ac3:fV B w3 b Em l.tail:=by rw[qZ Az.o]at D7;exact D7
    have R3:=hid ac3;have HE:Hid (aZ (dX f) l=bZ (dX f) [Simple.of 116 aA] l.tail/\1+l.tail.length<=l.length):=Wu nk Az.o;clear D7 ac3 nk;have M0:=MG.nil (aQ f) 1 222 w.heap.size w3;go_wp2_with(at_builtin;go_must(refine wpList_append_own_at _ rfl _ _ 217 rfl w.heap.size 222 iT .nilIface 1 16 Tryz.underlying217 HI.o.1 HI.o.2.1 HI.o.2.2.1 HI.o.2.2.2 rfl oo (.slice none 0 0) 0 [] rfl (World.ownsRow_nil _ _ _ _) ⟨w3.heap.size,0,none⟩ 1 1 [.iface 311 (.agg #[])] rfl rfl (nO _ _ _) (by simp[Value.oneCell']) As oo An ?_));intro v4 w4 hown4 dS _ oh;have hb4:Below w.heap.size w3 w4:=(Ax.alloc hs3 _).grown dS An (fun rr hr=>by simp[Value.ownBlock]at hr)
    have HC:Hid (CpI f B b w l v4 [Simple.of 116 aA] l.tail w4):=⟨MG.snoc (aQ.fair f) (l:=[]) (cs:=[]) rfl (by have:=aQ.plain f (DZ w.heap.size (w3.alloc (.cells #[.iface 311 (.agg #[])] 222)) (.slice none 0 0)) (w3.alloc (.cells #[.iface 311 (.agg #[])] 222)) 116 aA aA aA 0;rw[Wq]at this;exact this) hown4 dS (by simpa using oh),⟨Em,by have hr:=R3.o.alloc (.cells #[.iface 311 (.agg #[])] 222);exact⟨by rw[dS.block b (by simp;omega) (by simp[Value.ownBlock])];exact hr.blk,hr.sl.keep (fun _ hg=>hg) (fun g hg=>by have hg':g<B:=hg;have:=hr.lo;exact dS.block g An (by simp[Value.ownBlock])),hr.lo⟩⟩,T3.o.trans' hb4,HE.o.1,HD.o.tail,by simpa using HE.o.2⟩
    have hle:1+l.tail.length<=600:=by have:=HE.o.2;omega
    clear hown4 dS oh hb4 M0;go_wp2_with fail;go_meet
    exact⟨_,_,_,rfl,by simpa using hle,HC.o⟩
  .have nk:(hdN l).t.kind=14:=by simpa using hk
   obtain⟨tg,Htg⟩:=Nm (small (hdN l).t.word);have HE:Hid (aZ (dX f) l=bZ (dX f) [Simple.of 116 tg] l.tail/\1+l.tail.length<=l.length):=by have:=Np (rec:=dX f) nk;rw[Htg.o]at this;exact⟨this.1,this.2.1⟩
   have HT:Hid (tg≠aA):=by rw[<-Htg.o];obtain⟨n,r,e⟩:=(Np (rec:=dX f) nk).2.2;refine ac2 ?_;rw[e]at nk⊢;exact HNM.o n (by rw[e];simp) nk
   have hwd:=HD.o.hd.2;clear nk;obtain⟨n,Hn⟩:=Nm (hdN l);rw[Hn.o]at Htg hwd hk;go_wp2_with fail;refine(sN B b _ l _ R2.o).mono ?_;rw[Hn.o];rintro e w3 ⟨kv3,Em,rfl,_,D7,Ox⟩;have R3:=hid D7;have T3:=hid (T2.o.trans Ox);clear D7 Ox;unfold fB;go_wp2_with fail;refine(nH n.t.word _ hwd).mono ?_;rw[Htg.o];rintro e w5 ⟨rfl,hb5⟩;have R5:=hid (R3.o.below hb5);have T5:=hid (T3.o.trans (Turn.of_below hb5));have hs5:=T5.o.size;clear hb5 R3 T3
   go_wp2_with(at_builtin;go_must(refine wpList_append_own_at _ rfl _ _ 217 rfl w.heap.size 222 iT .nilIface 1 16 Tryz.underlying217 HI.o.1 HI.o.2.1 HI.o.2.2.1 HI.o.2.2.2 rfl oo (.slice none 0 0) 0 [] rfl (World.ownsRow_nil _ _ _ _) ⟨w5.heap.size,0,none⟩ 1 1 [.iface 309 (.agg #[.string tg])] rfl rfl (nO _ _ _) (by simp[Value.oneCell']) As oo An ?_));intro v4 w4 hown4 dS _ oh;have hb4:Below w.heap.size w5 w4:=(Ax.alloc hs5 _).grown dS An (fun rr hr=>by simp[Value.ownBlock]at hr)
   have HC:Hid (CpI f B b w l v4 [Simple.of 116 tg] l.tail w4):=⟨MG.snoc (aQ.fair f) (l:=[]) (cs:=[]) rfl (by have:=aQ.plain f (DZ w.heap.size (w5.alloc (.cells #[.iface 309 (.agg #[.string tg])] 222)) (.slice none 0 0)) (w5.alloc (.cells #[.iface 309 (.agg #[.string tg])] 222)) 116 tg aA aA 0;rw[aaC HT.o]at this;exact this) hown4 dS (by simpa using oh),⟨Em,by have hr:=R5.o.alloc (.cells #[.iface 309 (.agg #[.string tg])] 222);exact⟨by rw[dS.block b (by simp;omega) (by simp[Value.ownBlock])];exact hr.blk,hr.sl.keep (fun _ hg=>hg) (fun g hg=>by have hg':g<B:=hg;have:=hr.lo;exact dS.block g An (by simp[Value.ownBlock])),hr.lo⟩⟩,T5.o.trans' hb4,HE.o.1,HD.o.tail,by simpa using HE.o.2⟩
   have hle:1+l.tail.length<=600:=by have:=HE.o.2;omega
   clear hown4 dS oh hb4;go_wp2_with fail;go_meet
   exact⟨_,_,_,rfl,by simpa using hle,HC.o⟩
 case rest=>
 obtain⟨u,acc,cur,rfl,hlen,hA⟩:=hcut;have HC0:Hid (CpI f B b w l u acc cur wc):=hA.o;clear hA R2 T2 HNM;go_wp2_with fail;go_loopg[4] cur.length (fun gg v4 wr=>∃(u:Av) (acc:List Simple) (cur:List Nd),u=v4/\gg=cur.length/\acc.length+cur.length<=600/\Aside (CpI f B b w l u acc cur wr));case atStart=>exact⟨u,acc,cur,rfl,rfl,hlen,HC0.o⟩
 case round=>
  obtain⟨u,acc,cur,rfl,rfl,hlen,hA⟩:=hrel;have HC:Hid (CpI f B b w l u acc cur wr):=hA.o;clear hA HC0;obtain⟨ua,uc,rfl⟩:=HC.o.row.form;obtain⟨sv1,hR1⟩:=HC.o.rdr;have R1:=hid hR1;clear hR1;have hsr:=HC.o.turn.size;go_wp2_with fail;refine pmb (Ld B b _ cur _ R1.o) fun w2 hb2=>?_;have R2:=hid (R1.o.below hb2);have T2:=hid (HC.o.turn.trans (Turn.of_below hb2));have M2:=hid (HC.o.row.below (aQ.fair f) hb2);clear hb2 R1;obtain⟨fo,Hfo⟩:=Nm (CB (hdN cur).t);rw[Hfo.o];cases fo
  .have HV:Hid (aZ (dX f) l=some (acc,cur)):=by
    show _=_;rw[HC.o.eq,xP,Hfo.o];rfl
   go_wp2_with fail;go_ret2
   exact⟨by rw[HV.o];exact⟨_,_,rfl,R2.o,M2.o.sl (aQ.fair f) (aQ.sized f) oo⟩,T2.o⟩
  .have hcn:cur≠[]:=by
    rintro rfl;have:=Hfo.o;rw[IB]at this;cases this
   have HS:Hid (aZ (dX f) l=match iD (dX f) cur with|none=>none|some (s,r)=>bZ (dX f) (acc++[s]) r):=by show _=_;rw[HC.o.eq,xP,Hfo.o];rfl
   have HDC:Hid (uo f cur/\acc.length+cur.length<=l.length):=⟨HC.o.dep,HC.o.len⟩;have hs2:=T2.o.size;clear HC;go_wp2_with fail;refine(ai4 f HR.o B b _ cur w2 R2.o HDC.o.1).mono ?_;rintro e w3 ⟨hp,Ox⟩;have T3:=hid (T2.o.trans Ox);have M3:=hid (M2.o.turn (aQ.fair f) Ox hbw);have hs3:=Ox.size;clear Ox;unfold ptP at hp;cases hq:iD (dX f) cur with
   |none=>
    rw[hq]at hp;obtain⟨pv,Em,l3,rfl,D7⟩:=hp;have R3:=hid D7;have HV:Hid (aZ (dX f) l=none):=by show _=_;rw[HS.o,hq]
    clear hq D7;go_wp2_with fail;go_ret2
    exact⟨by rw[HV.o];exact⟨_,_,_,rfl,R3.o⟩,T3.o⟩
   |some sr=>
    obtain⟨s,r⟩:=sr;rw[hq]at hp;obtain⟨pv,Em,rfl,D7,hps⟩:=hp;obtain⟨pT,pu,rfl⟩:=hps.form;have R3:=hid D7;have HV:Hid (aZ (dX f) l=bZ (dX f) (acc++[s]) r):=by show _=_;rw[HS.o,hq]
    have hrl:=(AO hq hcn).1;have HDR:Hid (uo f r):=(AO hq hcn).2 f HDC.o.1;have PA:∀o,Hid (aQ f (DZ w.heap.size (w3.alloc o) (.slice ua acc.length uc)) (w3.alloc o) s [.iface pT pu]):=fun o=>M2.o.apart (aQ.fair f) hps hs2 Ab (fun g hg=>Below.heap_alloc _ _ _ hg);obtain⟨cs,hown,pX⟩:=(M3.o.alloc (aQ.fair f) (.cells #[.iface pT pu] 222));have HO:=hid hown;have Wx:=hid pX;clear hq D7 hps hown pX HS hcn
    go_wp2_with(at_builtin;go_must(refine wpList_append_own_at _ rfl _ _ 217 rfl w.heap.size 222 iT .nilIface 1 16 Tryz.underlying217 HI.o.1 HI.o.2.1 HI.o.2.2.1 HI.o.2.2.2 rfl oo (.slice ua acc.length uc) acc.length cs rfl HO.o ⟨w3.heap.size,0,none⟩ 1 1 [.iface pT pu] rfl rfl (nO _ _ _) (by simp[Value.oneCell']) As oo An ?_));intro v4 w4 hown4 dS _ oh;have hlo:∀rr,Value.ownBlock (.slice ua acc.length uc)=some rr->w.heap.size<=rr:=fun rr hr=>(HO.o.lt rr hr).1;have hb4:Below w.heap.size w3 w4:=(Ax.alloc oo _).grown dS An hlo;have FZ:Hid (CpI f B b w l v4 (acc++[s]) r w4):=⟨MG.snoc (aQ.fair f) Wx.o (PA _).o hown4 dS (by simpa using oh),⟨Em,by have hr:=R3.o.alloc (.cells #[.iface pT pu] 222);exact⟨by rw[dS.block b (by simp;omega) (fun e=>by have:=hlo b e.symm;omega)];exact hr.blk,hr.sl.keep (fun _ hg=>hg) (fun g hg=>by have hg':g<B:=hg;have:=hr.lo;exact dS.block g An (fun e=>by have:=hlo g e.symm;omega)),hr.lo⟩⟩,T3.o.trans' hb4,HV.o,HDR.o,by have:=HDC.o.2;simp;omega⟩
    clear hown4 dS oh hb4 hlo;go_wp2_with fail;go_roundg r.length;case measure=>omega
    case rel=>exact⟨v4,acc++[s],r,rfl,rfl,by simp;omega,FZ.o⟩
end
section
section
variable {w w':WD} {g:Nat} {t:Tok}
end
end
section
section
variable {rec:List Nd->Option bY} {acc:List Simple} {n:Nd} {r:List Nd}
theorem Wy:bZ rec acc []=some (acc,[]):=by simp[bZ]
end
end
section
section
variable {rec:List Nd->Option bY} {g b:Nat} {l r:List Nd} {all:List Simple}
theorem LM(h:aZ rec l=none):bD rec (g+1) b l=none:=by unfold bD;rw[h]
theorem Jj(h:aZ rec l=some ([],r)):bD rec (g+1) b l=none:=by unfold bD;rw[h];simp
theorem LP(h:aZ rec l=some (all,[]))(ha:all≠[]):bD rec (g+1) b l=some [(b,all)]:=by unfold bD;rw[h];simp[ha]
theorem RY(h:aZ rec l=some (all,r))(hr:r≠[])(hc:gU r=none):bD rec (g+1) b l=none:=by
 unfold bD;rw[h];simp only;by_cases ha:all=[]
 .rw[if_pos ha]
 .rw[if_neg ha,if_neg hr,hc]
theorem LQ{c:Nat}{r':List Nd}(h:aZ rec l=some (all,r))(ha:all≠[])(hr:r≠[])(hc:gU r=some (c,r')):bD rec (g+1) b l=(bD rec g c r').map (fun x=>(b,all)::x):=by
 conv=>lhs;unfold bD
 rw[h];simp only;rw[if_neg ha,if_neg hr,hc]
end
end
section
theorem uw:∀(l:List Nd) (n:Nd),n∈aH l->n∈l
 |m::r,n,h=>by
  unfold aH at h;split at h
  .exact List.mem_cons_of_mem _ (uw r n h)
  .exact h
theorem RZ(l:List Nd)(n:Nd)(h:n∈bare l):n∈l:=by unfold bare lJ at h;rw[List.mem_reverse]at h;exact uw l n (List.mem_reverse.1 (uw _ n h))
theorem Ey:∀(l:List Nd) (out:List (List Nd)) (cur:List Nd) (P:Nd->Prop),(∀p∈out,∀n∈p,P n)->(∀n∈cur,P n)->(∀n∈l,P n)->∀p∈iZ out cur l,∀n∈p,P n
 |[],out,cur,P,h1,h2,_,p,hp,n,hn=>by
  unfold iZ at hp;rcases List.mem_append.1 hp with h|h
  .exact h1 p h n hn
  .simp at h;subst h;exact h2 n hn
 |m::r,out,cur,P,h1,h2,h3,p,hp,n,hn=>by
  unfold iZ at hp;split at hp
  .refine Ey r (out++[cur]) [] P (fun q hq k hk=>?_) Ab (fun k hk=>h3 k (by simp[hk])) p hp n hn;rcases List.mem_append.1 hq with h|h
   .exact h1 q h k hk
   .simp at h;subst h;exact h2 k hk
  .refine Ey r out (cur++[m]) P h1 (fun k hk=>?_) (fun k hk=>h3 k (by simp[hk])) p hp n hn;rcases List.mem_append.1 hk with h|h
   .exact h2 k h
   .simp at h;subst h;exact h3 _ Ab
theorem WA(l:List Nd):(parted l).length<=l.length+1:=by
 have:∀(l:List Nd) (out:List (List Nd)) (cur:List Nd),(iZ out cur l).length<=out.length+l.length+1:=by
  intro l;induction l with
  |nil=>intro out cur;simp[iZ]
  |cons m r ih=>
   intro out cur;unfold iZ;split
   .have:=ih (out++[cur]) [];simp at this⊢;omega
   .have:=ih out (cur++[m]);simp at this⊢;omega
 have:=this l [] [];simpa[parted]using this
section
variable {rec:List Nd->Option bY} {p:List Nd} {r:List (List Nd)}
theorem WB(h:je rec (bare p)=none):fZ rec (p::r)=none:=by unfold fZ;rw[h]
theorem WC{s:List Step}(h:je rec (bare p)=some s):fZ rec (p::r)=(fZ rec r).map (fun x=>s::x):=by
 have e:fZ rec (p::r)=match je rec (bare p)with|none=>none|some s=>(fZ rec r).map (fun x=>s::x):=rfl
 rw[e,h]
end
end
section
attribute [local go_sem] bI bJ aX aY
theorem aaD:∃i,prog.info? 219=some i/\i.zero=some (.agg #[.int .i64 0,.slice none 0 0])/\i.size=2/\i.bytes=32:=info_parts Ao
theorem new2(w:WD)(a b:Av)(t:TypeId):∀j u,[a,b][j]?=some u->(w.alloc (.cells #[a,b] t)).cell? ((⟨w.heap.size,0,none⟩:Addr).add j)=some u:=by intro j u hu;rw[Addr.add_lit,Nat.zero_add,World.cell?_alloc_mark,<-hu];simp
theorem uy{l:List Nd}{n:Nd}(h:n∈l.tail):n∈l:=List.mem_of_mem_tail h
theorem WE{rec:List Nd->Option bY}{l:List Nd}{s:Simple}{r:List Nd}(h:iD rec l=some (s,r)):∀n∈r,n∈l:=by
 unfold iD at h;split at h
 .cases h;exact fun n hn=>uy hn
 .split at h
  .split at h
   .cases h;exact fun n hn=>uy (uy hn)
   .cases h
  .split at h
   .cases ha:gG (bare (hdN l).kids)with
    |none=>rw[ha]at h;cases h
    |some s'=>rw[ha]at h;cases h;exact fun n hn=>uy hn
   .cases ha:bM rec (hdN l.tail)with
    |none=>rw[ha]at h;cases h
    |some s'=>rw[ha]at h;cases h;exact fun n hn=>uy (uy hn)
theorem WG(rec:List Nd->Option bY)(k:Nat):∀(acc:List Simple) (l:List Nd) (all:List Simple) (r:List Nd),l.length<=k->bZ rec acc l=some (all,r)->(∀n∈r,n∈l)/\all.length+r.length<=acc.length+l.length:=by
 induction k with
 |zero=>intro acc l all r hl h;obtain rfl:l=[]:=List.eq_nil_of_length_eq_zero oo;rw[Wy]at h;cases h;exact⟨fun _ h=>h,by simp⟩
 |succ k ih=>
  intro acc l all r hl h;rw[xP]at h;split at h
  .rename_i hfo;have hne:l≠[]:=by rintro rfl;rw[IB]at hfo;cases hfo
   cases hq:iD rec l with
   |none=>rw[hq]at h;cases h
   |some sr=>obtain⟨s,r1⟩:=sr;rw[hq]at h;have h1:=(AO hq hne).1;obtain⟨h2,h3⟩:=ih (acc++[s]) r1 all r oo h;exact⟨fun n hn=>WE hq n (h2 n hn),by simp at h3;omega⟩
  .cases h;exact⟨fun _ h=>h,Nat.le_refl _⟩
theorem LU{rec:List Nd->Option bY}{l:List Nd}{all:List Simple}{r:List Nd}(h:aZ rec l=some (all,r)):(∀n∈r,n∈l)/\all.length+r.length<=l.length:=by
 unfold aZ at h;obtain⟨h1,h2⟩:=WG rec _ _ _ _ _ nl h;unfold kP at h1 h2;cases l with
 |nil=>exact⟨h1,by simpa using h2⟩
 |cons n q=>
  simp only at h1 h2;split at h1
  .rename_i hk;rw[if_pos hk]at h2;exact⟨fun x hx=>List.mem_cons_of_mem _ (h1 x hx),by simp at h2⊢;omega⟩
  .rename_i hk;rw[if_neg hk]at h2;split at h1
   .rename_i hs;rw[if_pos hs]at h2;exact⟨fun x hx=>List.mem_cons_of_mem _ (h1 x hx),by simp at h2⊢;omega⟩
   .rename_i hs;rw[if_neg hs]at h2;exact⟨h1,by simpa using h2⟩
theorem aaE{l r:List Nd}{c:Nat}(h:gU l=some (c,r)):(∀n∈r,n∈l)/\r.length<=l.length:=by
 have hd:∀x∈aH l,x∈l:=fun x hx=>uw l x hx;have hdl:=MF l;unfold gU at h;cases hl:aH l with
 |nil=>
  rw[hl]at h;simp only at h;split at h
  .cases h
  .cases h;exact⟨by simp,by simp⟩
 |cons n q=>
  rw[hl]at h hd hdl;have hq:∀x∈aH q,x∈l:=fun x hx=>hd x (List.mem_cons_of_mem _ (uw q x hx));have hql:=MF q;simp only[List.length_cons]at hdl;simp only at h;repeat' split at h
  all_goals first
   |(cases h;exact⟨hq,oo⟩)
   |(cases h;exact⟨hd,by simp;omega⟩)
   |cases h
def cxP(f:Nat)(o:Option (List Step))(w w':WD)(e:Ending):Prop:=
 match o with
 |none=>e=.returned (.tuple #[.slice none 0 0,.bool false])
 |some ss=>∃sv,e=.returned (.tuple #[sv,.bool true])/\SG (fO (aQ f)) 2 (oD w.heap.size w') w' sv ss
structure CxI(f B b:Nat)(w:WD)(d:List Nd)(u:Av)(ss:List Step)(c:Nat)(cur:List Nd)(k:Nat)(wr:WD):Prop where
 row:MG (fO (aQ f)) 2 219 w.heap.size wr u ss
 rdr:∃sv,fV B wr b sv cur
 turn:Turn b w wr
 eq:je (dX f) d=(bD (dX f) k c cur).map (fun x=>ss++x)
 mem:∀n∈cur,n∈d
 fuel:cur.length+1<=k
 len:ss.length+k<=d.length+1
theorem uo.sub{f:Nat}{l d:List Nd}(h:uo f d)(hs:∀n∈l,n∈d):uo f l:=fun n hn=>h n (hs n hn)
theorem NmL.sub{l d:List Nd}(h:NmL d)(hs:∀n∈l,n∈d):NmL l:=fun n hn=>h n (hs n hn)
theorem LV(f:Nat)(hR:Lh f)(B:Nat)(p:List Nd)(v:Av)(w:WD)(h:Sl (fun b=>b<B) w v p)(hB:B<=w.heap.size)(hd:uo f p)(hnm:NmL p):
  Calls prog 126 #[v] w fun e w'=>cxP f (je (dX f) (bare p)) w w' e/\Below w.heap.size w w':=by
 have HS:=hid h;have HR:=hid hR;obtain⟨d,Hd⟩:=Nm (bare p);have HD:Hid (uo f d):=by rw[<-Hd.o];exact hd.sub (fun n hn=>RZ p n hn)
 have HNM:Hid (NmL d):=by rw[<-Hd.o];exact hnm.sub (fun n hn=>RZ p n hn)
 rw[Hd.o];clear h hR hd hnm;obtain⟨a,cap,rfl⟩:=HS.o.form;obtain⟨iT,hiT⟩:=aaD;have HI:=hid hiT;clear hiT;have hFS:Hid (Fair (fO (aQ f))):=fO.fair (aQ.fair f);go_in;go_wp2_with fail;refine(tu B p _ w HS.o).mono ?_;rw[Hd.o];rintro e w0 ⟨v1,rfl,hS1,rfl⟩;obtain⟨va,vc,rfl⟩:=hS1.form;have hd6:=hS1.len;have R1:Hid (fV B (w0.alloc (.cells #[.slice va d.length vc] 270)) w0.heap.size (.slice va d.length vc) d):=fV.new hS1 hB;have B1:Hid (Below w0.heap.size w0 (w0.alloc (.cells #[.slice va d.length vc] 270))):=Ax.alloc nl _;clear hS1 HS;go_upto_region 3 with fail
 generalize w0.alloc (.cells #[.slice va d.length vc] 270)=w1 at *;obtain⟨b,Hb⟩:=Nm w0.heap.size;have R2:Hid (fV B w1 b (.slice va d.length vc) d):=by rw[<-Hb.o];exact R1
 clear R1;rw[Hb.o];have hbw:b<w1.heap.size:=R2.o.lt;have I0:Hid (CxI f B b w1 d (.slice none 0 0) [] 0 d (d.length+1) w1):=⟨MG.nil _ _ _ _ _,⟨_,R2.o⟩,Turn.refl _ _,by unfold je;cases bD (dX f) (d.length+1) 0 d<;>simp,fun _ h=>h,Nat.le_refl _,by simp⟩;clear R2;go_wp2_with fail;go_loopg[4,6] (d.length+1) (fun gg v4 v6 wr=>∃(u:Av) (ss:List Step) (c:Nat) (cur:List Nd),u=v4/\v6=.int .i64 (sG c)/\ss.length+gg<=601/\Aside (CxI f B b w1 d u ss c cur gg wr));case atStart=>exact⟨_,[],0,d,rfl,rfl,by simp;omega,I0.o⟩
 case round=>
  obtain⟨u,ss,c,cur,rfl,rfl,hlen,hA⟩:=hrel;have HC:Hid (CxI f B b w1 d u ss c cur gk wr):=hA.o;clear hA I0;obtain⟨ua,uc,rfl⟩:=HC.o.row.form;obtain⟨sv1,hR1⟩:=HC.o.rdr;have R1:=hid hR1;clear hR1;have hsr:=HC.o.turn.size;obtain⟨k,rfl⟩:∃k,gk=k+1:=⟨gk-1,by have:=HC.o.fuel;omega⟩;go_wp2_with fail;refine(Wv f HR.o B b _ cur wr R1.o (HD.o.sub HC.o.mem) (HNM.o.sub HC.o.mem)).mono ?_;rintro e w2 ⟨hp,hT2⟩;have T2:=hid (HC.o.turn.trans hT2);have M2:=hid (HC.o.row.turn hFS.o hT2 hbw);have hs2:=hT2.size;clear hT2 R1;have BB:Hid (∀w',Turn b w1 w'->Below w0.heap.size w0 w'):=fun w' ht=>Turn.over B1.o ht (by rw[Hb.o];exact Nat.le_refl _);unfold cpP at hp;cases hq:aZ (dX f) cur with
  |none=>
   rw[hq]at hp;obtain⟨lv,Yv,l2,rfl,hR2⟩:=hp;have HV:Hid (je (dX f) d=none):=by show _=_;rw[HC.o.eq,LM hq];rfl
   clear hq hR2;go_wp2_with fail;go_ret2
   exact⟨by rw[HV.o];rfl,BB.o _ T2.o⟩
  |some ar=>
   obtain⟨all,r⟩:=ar;rw[hq]at hp;obtain⟨lv,Yv,rfl,hR2,hsg⟩:=hp;have R2:=hid hR2;obtain⟨la,lc,rfl⟩:=hsg.form;have HQ:=hid hq;have Rn:=hid hsg;have alp:=LU hq;have HSF:=hid alp;clear hq hR2 hsg alp;by_cases hal:all=[]
   .subst hal;have HV:Hid (je (dX f) d=none):=by show _=_;rw[HC.o.eq,Jj HQ.o];rfl
    go_wp2_with fail;go_ret2
    exact⟨by rw[HV.o];rfl,BB.o _ T2.o⟩
   .have amL:0<all.length:=by cases all with|nil=>exact absurd rfl hal|cons x y=>simp
    have hdec:decide (0<all.length)=true:=by simpa using amL
    have PA:∀o,Hid (fO (aQ f) (DZ w1.heap.size (w2.alloc o) (.slice ua ss.length uc)) (w2.alloc o) (c,all) [.int .i64 (sG c),.slice la all.length lc]):=fun o=>HC.o.row.apart hFS.o (show fO (aQ f) (oD wr.heap.size w2) w2 (c,all) [.int .i64 (sG c),.slice la all.length lc] from⟨_,rfl,Rn.o⟩) hsr Ab (fun g hg=>Below.heap_alloc _ _ _ hg);obtain⟨cs,hown,pX⟩:=(M2.o.alloc hFS.o (.cells #[.int .i64 (sG c),.slice la all.length lc] 219));have HO:=hid hown;have Wx:=hid pX;clear hown pX;have alq:=hid hal
    clear hal;go_wp2_with(at_builtin;go_must(refine wpList_append_own_at _ rfl _ _ 148 rfl w1.heap.size 219 iT (.agg #[.int .i64 0,.slice none 0 0]) 2 32 Tryz.underlying148 HI.o.1 HI.o.2.1 HI.o.2.2.1 HI.o.2.2.2 rfl oo (.slice ua ss.length uc) ss.length cs rfl HO.o ⟨w2.heap.size,0,none⟩ 1 1 [.int .i64 (sG c),.slice la all.length lc] rfl rfl (new2 _ _ _ _) (by simp[Value.oneCell']) As oo An ?_));intro v4 w4 hown4 dS _ oh;have hlo:∀rr,Value.ownBlock (.slice ua ss.length uc)=some rr->w1.heap.size<=rr:=fun rr hr=>(HO.o.lt rr hr).1;have hb4:Below w1.heap.size w2 w4:=(Ax.alloc oo _).grown dS An hlo;have M4:Hid (MG (fO (aQ f)) 2 219 w1.heap.size w4 v4 (ss++[(c,all)])):=MG.snoc hFS.o Wx.o (PA _).o hown4 dS (by simpa using oh);have R4:Hid (fV B w4 b Yv r):=by have hr:=R2.o.alloc (.cells #[.int .i64 (sG c),.slice la all.length lc] 219);exact⟨by rw[dS.block b (by simp;omega) (fun e=>by have:=hlo b e.symm;omega)];exact hr.blk,hr.sl.keep (fun _ hg=>hg) (fun g hg=>by have hg':g<B:=hg;have:=hr.lo;exact dS.block g An (fun e=>by have:=hlo g e.symm;omega)),hr.lo⟩
    have T4:=hid (T2.o.trans' hb4);have hs4:=T4.o.size;obtain⟨fa,fc,rfl⟩:=M4.o.form;have M5:Hid (MG (fO (aQ f)) 2 219 w1.heap.size w4 (.slice fa (ss.length+1) fc) (ss++[(c,all)])):=by have:=M4.o;rw[List.length_append]at this;exact this
    clear M4;clear hown4 dS oh hb4 hlo;go_wp2_with fail;refine(vg B b _ r _ R4.o).mono ?_;rintro e w5 ⟨rfl,rfl⟩;by_cases hr:r=[]
    .subst hr;have HV:Hid (je (dX f) d=some (ss++[(c,all)])):=by show _=_;rw[HC.o.eq,LP HQ.o alq.o];rfl
     have HG:Hid (SG (fO (aQ f)) 2 (oD w0.heap.size w5) w5 (.slice fa (ss.length+1) fc) (ss++[(c,all)])):=(M5.o.sl hFS.o (fO.sized _) An).keep hFS.o (xO B1.o.size) fun _ _=>rfl;go_wp2_with fail;go_ret2
     exact⟨by rw[HV.o];exact⟨_,rfl,HG.o⟩,BB.o _ T4.o⟩
    .have hrl:(r.length==0)=false:=by cases r with|nil=>exact absurd rfl hr|cons x y=>rfl
     have HRN:=hid hr;clear hr;go_wp2_with fail;refine(Ov B b _ r _ R4.o).mono ?_;rintro e w6 ⟨sv6,l6,QI,Qe,hcb⟩;have T6:=hid (T4.o.trans Qe);have M6:=hid (M5.o.turn hFS.o Qe hbw);have R6:=hid QI;clear QI Qe;rcases hcb with⟨hcn,rfl⟩|⟨c2,hcs,rfl⟩
     .have HV:Hid (je (dX f) d=none):=by show _=_;rw[HC.o.eq,RY HQ.o HRN.o hcn];rfl
      clear hcn;go_wp2_with fail;go_ret2
      exact⟨by rw[HV.o];rfl,BB.o _ T6.o⟩
     .have hcs2:=aaE hcs;have OA:Hid (CxI f B b w1 d (.slice fa (ss.length+1) fc) (ss++[(c,all)]) c2 l6 k w6):=⟨M6.o,⟨_,R6.o⟩,T6.o,by
        rw[HC.o.eq,LQ HQ.o alq.o HRN.o hcs,Option.map_map];congr 1
        funext x
        simp,fun n hn=>HC.o.mem n (HSF.o.1 n (hcs2.1 n hn)),by have:=HC.o.fuel;have:=HSF.o.2;have:=hcs2.2;omega,by have:=HC.o.len;simp;omega⟩
      clear hcs hcs2;go_wp2_with fail;go_roundg k;case measure=>omega
      case rel=>exact⟨_,ss++[(c,all)],c2,l6,rfl,rfl,by simp;omega,OA.o⟩
end
section
attribute [local go_sem] bI bJ aX aY
theorem Sl.amM{S:Nat->Prop}{w:WD}{a:Option Addr}{n cap:Nat}{ns:List Nd}(h:Sl S w (.slice a n cap) ns)(i j:Nat)(hij:i<=j)(hj:j<=ns.length):
  ∃a' c',(∀W:WD,(Instr.slice 128 (.slice a n cap) (some (.int .i64 (i:Int))) (some (.int .i64 (j:Int))) none).run prog W=.ok (.slice a' (j-i) c') W)/\Sl S w (.slice a' (j-i) c') ((ns.take j).drop i):=by
 obtain⟨iT,h1,_,h3,_⟩:=yZ;have hc:ns.length<=cap:=by obtain⟨_,_,e,hc,_⟩:=h;cases e;exact hc.1
 refine⟨if cap=i then a else a.map (·.add (i*4)),cap-i,fun W=>?_,?_⟩
 .rw[run_slice_lh (P:=prog) W 128 a n cap Tryz.underlying128 .i64 .i64 i j oo oo oo];have e:prog.elem 128=199:=by kernel_rfl
  simp[sizeOf,typeInfo,e,h1,h3,sliced,Result.andThen]
 .have:=h.cut i j hij hj;simpa[sliced]using this
theorem Sl.alr{S:Nat->Prop}{w:WD}{a:Option Addr}{cap:Nat}{ns:List Nd}(h:Sl S w (.slice a ns.length cap) ns)(i:Nat)(hi:i<=ns.length):
  ∃a' c',(∀W:WD,(Instr.slice 128 (.slice a ns.length cap) (some (.int .i64 (i:Int))) none none).run prog W=.ok (.slice a' (ns.length-i) c') W)/\Sl S w (.slice a' (ns.length-i) c') (ns.drop i):=by
 obtain⟨iT,h1,_,h3,_⟩:=yZ;refine⟨if cap=i then a else a.map (·.add (i*4)),cap-i,fun W=>?_,?_⟩
 .rw[run_slice_l (P:=prog) W 128 a ns.length cap Tryz.underlying128 .i64 i oo oo];have e:prog.elem 128=199:=by kernel_rfl
  simp[sizeOf,typeInfo,e,h1,h3,sliced,Result.andThen]
 .have:=h.cut i ns.length hi nl;rw[List.take_of_length_le nl]at this;simpa[sliced]using this
theorem ac4:∃i,prog.info? 128=some i/\i.zero=some (.slice none 0 0)/\i.size=1/\i.bytes=24:=info_parts Ao
theorem Hf.low{B B':Nat}{w w':WD}{l:List (List Nd)}{vs:List Av}(h:Hf (fun b=>b<B) w l vs)(hb:Below B' w w')(hB:B<=B'):Hf (fun b=>b<B) w' l vs:=h.keep (fun _ hg=>hg) fun g hg=>hb.block g (Nat.lt_of_lt_of_le hg hB)
structure SpI(B:Nat)(w:WD)(l:List Nd)(u:Av)(ps:List (List Nd))(vs:List Av)(bg i:Nat)(wr:WD):Prop where
 row:wr.ownsRow w.heap.size 128 1 u ps.length vs
 sls:Hf (fun b=>b<B) wr ps vs
 below:Below w.heap.size w wr
 eq:parted l=iZ ps ((l.take i).drop bg) (l.drop i)
 bi:bg<=i/\i<=l.length
 ln:ps.length<=bg
theorem agv(B:Nat)(l:List Nd)(v:Av)(w:WD)(h:Sl (fun b=>b<B) w v l)(hB:B<=w.heap.size):
  Calls prog 125 #[v,.string (b1 44)] w fun e w'=>∃v' vs,e=.returned v'/\w'.ownsRow w.heap.size 128 1 v' (parted l).length vs/\Hf (fun b=>b<B) w' (parted l) vs/\Below w.heap.size w w':=by
 have FU:=h.len;have HS:=hid h;obtain⟨a,cap,rfl⟩:=h.form;clear h;obtain⟨iT,hiT⟩:=ac4;have HI:=hid hiT;clear hiT;go_in;go_wp2_with fail;go_loopg[5,6,11] l.length (fun gg v5 v6 v11 wr=>∃(u:Av) (ps:List (List Nd)) (vs:List Av) (bg i:Nat),u=v5/\v6=.int .i64 (bg:Int)/\v11=.int .i64 (i:Int)/\i+gg=l.length/\bg<=i/\ps.length<=bg/\Aside (SpI B w l u ps vs bg i wr));case atStart=>exact⟨_,[],[],0,0,rfl,rfl,rfl,oo,oo,by simp,World.ownsRow_nil _ _ _ _,rfl,Ax,by simp[parted],⟨oo,oo⟩,by simp⟩
 case round=>
  obtain⟨u,ps,vs,bg,i,rfl,rfl,rfl,hi,hbi,hpb,hA⟩:=hrel;have HC:Hid (SpI B w l u ps vs bg i wr):=hA.o;clear hA;obtain⟨ua,uc,rfl⟩:=kQ HC.o.row;have hsr:=HC.o.below.size;by_cases hlt:i<l.length
  .have h1:(i:Int)<(l.length:Int):=oo;have S1:=HS.o.below HC.o.below hB;obtain⟨g,o,rfl,hL,hcap⟩:=S1.here (by rintro rfl;simp at hlt);obtain⟨kv,hN⟩:=hL.node (i:=i) hlt;obtain⟨n,hn⟩:∃n,n=l[i]:=⟨_,rfl⟩;have Hdr:Hid (l.drop i=n::l.drop (i+1)):=by show _=_;rw[hn];exact List.drop_eq_getElem_cons hlt
   have Htk:Hid ((l.take (i+1)).drop bg=(l.take i).drop bg++[n]):=by show _=_;rw[List.take_succ_eq_append_getElem hlt,<-hn,List.drop_append_of_le_length (by simp;omega)]
   rw[<-hn]at hN;obtain⟨ka,kc,rfl⟩:=hN.k.form;have d0:=hN.c0;have d1:=hN.c1;have d2:=hN.c2;have d3:=hN.c3;have hgB:g<B:=hN.s;clear hN hL S1 hn;have A2:Hid (VB (wr.alloc (.cells #[.int .i64 n.t.kind,.string n.t.word,.string n.t.unit,.slice ka n.kids.length kc] 199)) wr.heap.size (.int .i64 n.t.kind) (.string n.t.word) (.string n.t.unit) (.slice ka n.kids.length kc)):=VB.new _ _ _ _ _;have B2:Hid (Below wr.heap.size wr (wr.alloc (.cells #[.int .i64 n.t.kind,.string n.t.word,.string n.t.unit,.slice ka n.kids.length kc] 199))):=Ax.alloc nl _;go_upto_region 6 with fail
   generalize wr.alloc (.cells #[.int .i64 n.t.kind,.string n.t.word,.string n.t.unit,.slice ka n.kids.length kc] 199)=w2 at *;obtain⟨gt,mV⟩:=Nm wr.heap.size;have A3:Hid (VB w2 gt (.int .i64 n.t.kind) (.string n.t.word) (.string n.t.unit) (.slice ka n.kids.length kc)):=by rw[<-mV.o];exact A2
   rw[mV.o];clear A2 d0 d1 d2 d3;obtain⟨a0,a1,a2,a3⟩:=A3.o.cs;go_wp2_with fail;refine pmb (jf n.t _ (b1 44) _) fun w3 hb3=>?_;have B3:=hid (AC B2.o hb3);clear hb3 a0 a1 a2 a3 A3 B2;have C3:Hid (SpI B w l (.slice ua ps.length uc) ps vs bg i w3):=⟨aP HC.o.row fun k hk=>B3.o.block k (HC.o.row.lt k hk).2,HC.o.sls.low B3.o oo,HC.o.below.trans (B3.o.mono hsr),HC.o.eq,HC.o.bi,HC.o.ln⟩;have hs3:=C3.o.below.size;clear HC B3;obtain⟨s1,Az⟩:=Nm (au n.t (b1 44));rw[Az.o];cases s1
   .have FZ:Hid (SpI B w l (.slice ua ps.length uc) ps vs bg (i+1) w3):=⟨C3.o.row,C3.o.sls,C3.o.below,by rw[C3.o.eq,Hdr.o,Htk.o];simp only[iZ,dN,Az.o];simp,⟨oo,oo⟩,C3.o.ln⟩;go_wp2_with fail;go_roundg(l.length-(i+1));case measure=>omega
    case rel=>exact⟨_,ps,vs,bg,i+1,rfl,rfl,by congr 1,oo,oo,hpb,FZ.o⟩
   .obtain⟨ca,cc,hrun,hcs⟩:=(HS.o.below C3.o.below hB).amM bg i hbi oo;have HCS:=hid hcs;have HRW:Hid ((w3.alloc (.cells #[.slice ca (i-bg) cc] 128)).ownsRow w.heap.size 128 1 (.slice ua ps.length uc) ps.length vs):=C3.o.row.alloc _;clear hcs;have q0:(0:Int)<=(bg:Int):=oo;have q1:(bg:Int)<=(i:Int):=oo;go_wp2_with(at_builtin;go_must(refine wpList_append_own_at _ rfl _ _ 212 rfl w.heap.size 128 iT (.slice none 0 0) 1 24 Tryz.underlying212 HI.o.1 HI.o.2.1 HI.o.2.2.1 HI.o.2.2.2 rfl oo (.slice ua ps.length uc) ps.length vs rfl HRW.o ⟨w3.heap.size,0,none⟩ 1 1 [.slice ca (i-bg) cc] rfl rfl (nO _ _ _) (by simp[Value.oneCell']) As oo An ?_));intro v4 w4 hown4 dS _ oh
    have hlo:∀rr,Value.ownBlock (.slice ua ps.length uc)=some rr->w.heap.size<=rr:=fun rr hr=>(HRW.o.lt rr hr).1;have hb4:Below w.heap.size w3 w4:=(Ax.alloc hs3 _).grown dS An hlo;have FZ:Hid (SpI B w l v4 (ps++[(l.take i).drop bg]) (vs++[.slice ca (i-bg) cc]) (i+1) (i+1) w4):=⟨by rw[List.length_append];exact hown4,Hf.snoc _ _ (C3.o.sls.low hb4 hB) _ _ (HCS.o.below hb4 hB),C3.o.below.trans hb4,by
      rw[C3.o.eq,Hdr.o];simp only[iZ,dN,Az.o,if_true];congr 1
      rw[List.drop_of_length_le (by simp;omega)],⟨Nat.le_refl _,oo⟩,by have:=C3.o.ln;simp;omega⟩
    have hl4:(ps++[(l.take i).drop bg]).length<=i+1:=FZ.o.ln;clear hown4 dS oh hb4 hlo;go_wp2_with fail;go_roundg(l.length-(i+1));case measure=>omega
    case rel=>exact⟨_,_,_,i+1,i+1,rfl,by congr 1,by congr 1,oo,oo,hl4,FZ.o⟩
  .have h1:(l.length:Int)<=(i:Int):=oo;obtain rfl:i=l.length:=oo;obtain⟨ca,cc,hrun,hcs⟩:=(HS.o.below HC.o.below hB).alr bg oo;have HCS:=hid hcs;have HRW:Hid ((wr.alloc (.cells #[.slice ca (l.length-bg) cc] 128)).ownsRow w.heap.size 128 1 (.slice ua ps.length uc) ps.length vs):=HC.o.row.alloc _;clear hcs;have q0:(0:Int)<=(bg:Int):=oo;have q1:(bg:Int)<=(l.length:Int):=oo;go_wp2_with(at_builtin;go_must(refine wpList_append_own_at _ rfl _ _ 212 rfl w.heap.size 128 iT (.slice none 0 0) 1 24 Tryz.underlying212 HI.o.1 HI.o.2.1 HI.o.2.2.1 HI.o.2.2.2 rfl oo (.slice ua ps.length uc) ps.length vs rfl HRW.o ⟨wr.heap.size,0,none⟩ 1 1 [.slice ca (l.length-bg) cc] rfl rfl (nO _ _ _) (by simp[Value.oneCell']) As oo An ?_));intro v4 w4 hown4 dS _ oh
   have hlo:∀rr,Value.ownBlock (.slice ua ps.length uc)=some rr->w.heap.size<=rr:=fun rr hr=>(HRW.o.lt rr hr).1;have hb4:Below w.heap.size wr w4:=(Ax.alloc hsr _).grown dS An hlo;have HE:Hid (parted l=ps++[l.drop bg]):=by show _=_;rw[HC.o.eq,List.drop_of_length_le nl,List.take_of_length_le nl];rfl
   have HO4:Hid (w4.ownsRow w.heap.size 128 1 v4 (parted l).length (vs++[.slice ca (l.length-bg) cc])):=by rw[HE.o,List.length_append];exact hown4
   have HS4:Hid (Hf (fun b=>b<B) w4 (parted l) (vs++[.slice ca (l.length-bg) cc])):=by rw[HE.o];exact Hf.snoc _ _ (HC.o.sls.low hb4 hB) _ _ (HCS.o.below hb4 hB)
   have HB4:=hid (HC.o.below.trans hb4);clear hown4 dS oh hb4 hlo;go_wp2_with fail;go_ret;exact⟨_,_,rfl,HO4.o,HS4.o,HB4.o⟩
end
section
attribute [local go_sem] bI bJ aX aY
theorem Sl.ok{S:Nat->Prop}{w:WD}{v:Av}{ns:List Nd}(h:Sl S w v ns):∀n∈ns,dI n.t:=by intro n hn;obtain⟨a,cap,rfl⟩:=h.form;obtain⟨g,o,rfl,hL,_⟩:=h.here (by rintro rfl;simp at hn);obtain⟨i,hi,e⟩:=List.getElem_of_mem hn;obtain⟨kv,hN⟩:=hL.node (i:=i) hi;rw[<-e];exact hN.ok
theorem Si{t:Tok}(h:t.kind=11):closing t≠aA:=by unfold closing;rw[if_pos h];decide
theorem WH{f:Nat}{l:List Nd}(h:depth l<=f):∀p∈parted l,∀n∈p,n.t.kind=11->depth n.kids+1<=f:=by intro p hp n hn hk;have h1:eU n<=f:=Ey l [] [] (fun n=>eU n<=f) Ab Ab (fun n hn=>Nat.le_trans (Ai l n hn) h) p hp n hn;rw[xE (Si hk)]at h1;exact h1
theorem ac5:∃i,prog.info? 148=some i/\i.zero=some (.slice none 0 0)/\i.size=1/\i.bytes=24:=info_parts Ao
structure RlI(f B:Nat)(w w1:WD)(l:List Nd)(vs:List Av)(pv:Av)(u:Av)(ss:bY)(i:Nat)(wr:WD):Prop where
 row:MG (AA (aQ f)) 1 148 w1.heap.size wr u ss
 ajr:wr.ownsRow w.heap.size 128 1 pv (parted l).length vs
 sls:Hf (fun b=>b<B) wr (parted l) vs
 below:Below w1.heap.size w1 wr
 eq:fZ (dX f) (parted l)=(fZ (dX f) ((parted l).drop i)).map (fun x=>ss++x)
 ln:ss.length=i
 plt:∀k,pv.ownBlock=some k->k<w1.heap.size
theorem YO(f:Nat)(hR:Lh f):vK f:=by
 intro B l v w hd h hB;have HS:=hid h;have HR:=hid hR;have HD:Hid (depth l<=f):=hd;obtain⟨a,cap,rfl⟩:=h.form;clear h hR hd;obtain⟨iT,hiT⟩:=ac5;have HI:=hid hiT;clear hiT;have hF:Hid (Fair (AA (aQ f))):=One.fair (fO.fair (aQ.fair f));have HL:Hid (lM f l=oz (dX f) l):=agb f l;obtain⟨ps,KP⟩:=Nm (parted l);have hpl:ps.length<=601:=by have:=WA l;rw[KP.o]at this;have:=HS.o.len;omega
 go_in;go_wp2_with fail;refine(agv B l _ w HS.o hB).mono ?_;rw[KP.o];rintro e w1 ⟨pv,vs,rfl,hrow,als,hb1⟩;obtain⟨qa,qc,rfl⟩:=kQ hrow;have B1:=hid hb1;have hw1:=hb1.size;have I0:Hid (RlI f B w w1 l vs (.slice qa ps.length qc) (.slice none 0 0) [] 0 w1):=⟨MG.nil _ _ _ _ _,by rw[KP.o];exact hrow,by rw[KP.o];exact als,Ax,by simp,rfl,fun k hk=>(hrow.lt k hk).2⟩;clear hrow als hb1 HS;by_cases h8:8<ps.length
 .have h8':(8:Int)<(ps.length:Int):=oo;have HV:Hid (lM f l=none):=by show _=_;rw[HL.o];unfold oz;rw[KP.o,if_pos h8]
  go_wp2_with fail;go_ret2
  exact⟨by unfold rdP;rw[HV.o];rfl,B1.o⟩
 .have h8':(ps.length:Int)<=8:=oo;have HV:Hid (lM f l=fZ (dX f) ps):=by show _=_;rw[HL.o];unfold oz;rw[KP.o,if_neg h8]
  go_wp2_with fail;go_loopg[5,17] ps.length (fun gg v5 v17 wr=>∃(u:Av) (ss:bY) (i:Nat),u=v5/\v17=.int .i64 (i:Int)/\i+gg=ps.length/\ss.length<=601/\Aside (RlI f B w w1 l vs (.slice qa ps.length qc) u ss i wr));case atStart=>exact⟨_,[],0,rfl,rfl,oo,by simp,I0.o⟩
  case round=>
   obtain⟨u,ss,i,rfl,rfl,hi,ant,hA⟩:=hrel;have HC:Hid (RlI f B w w1 l vs (.slice qa ps.length qc) u ss i wr):=hA.o;clear hA I0;obtain⟨ua,uc,rfl⟩:=HC.o.row.form;have hsr:=HC.o.below.size;by_cases hlt:i<ps.length
   .have h1:(i:Int)<(ps.length:Int):=oo;have hsl:=HC.o.sls;have hpr:=HC.o.ajr;rw[KP.o]at hsl hpr;obtain⟨pvi,hvi,hpi⟩:=Hf.at ps vs hsl i hlt;obtain⟨g,c',hq⟩:∃g c',Value.slice qa ps.length qc=.slice (some ⟨g,0,none⟩) ps.length c':=by
     rcases hpr.2 with⟨hv,hn⟩|⟨g,c',_,hv,_⟩
     .omega
     .exact⟨g,c',hv⟩
    injection hq with hq1 _ hq2
    subst hq1 hq2;obtain⟨p,Hp⟩:=Nm (ps[i]);rw[Hp.o]at hpi;have c0:wr.cell? ⟨g,i,none⟩=some pvi:=by have:=hpr.cells (g:=g) rfl i pvi hvi;rwa[Addr.add_lit,Nat.zero_add]at this
    have hpm:p∈parted l:=by rw[KP.o,<-Hp.o];exact List.getElem_mem _
    have HDP:Hid (uo f p):=fun n hn=>⟨WH HD.o p hpm n hn,by have:=(hpi.ok n hn).word;omega⟩;have HNP:Hid (NmL p):=fun n hn hk=>(hpi.ok n hn).named (.inr (.inr (.inr hk)));obtain⟨pa,pc,rfl⟩:=hpi.form;have HPI:=hid hpi;have HE:Hid ((parted l).drop i=p::(parted l).drop (i+1)):=by show _=_;rw[KP.o,List.drop_eq_getElem_cons hlt,Hp.o]
    clear hsl hpr hvi hpi hpm;go_wp2_with fail;refine(LV f HR.o B p _ wr HPI.o oo HDP.o HNP.o).mono ?_;rintro e w2 ⟨hcp,hb2⟩;have B2:=hid (HC.o.below.trans (hb2.mono hsr));have M2:=hid (HC.o.row.below hF.o hb2);have P2:Hid (w2.ownsRow w.heap.size 128 1 (.slice (some ⟨g,0,none⟩) ps.length qc) (parted l).length vs):=aP HC.o.ajr fun k hk=>hb2.block k (HC.o.ajr.lt k hk).2;have S2:=hid (HC.o.sls.low hb2 oo);have hs2:=hb2.size;clear hb2;unfold cxP at hcp;cases hx:je (dX f) (bare p)with
    |none=>
     rw[hx]at hcp;subst hcp;have HN:Hid (lM f l=none):=by show _=_;rw[HV.o,<-KP.o,HC.o.eq,HE.o,WB hx];rfl
     clear hx;go_wp2_with fail;go_ret2
     exact⟨by unfold rdP;rw[HN.o];rfl,B1.o.trans (B2.o.mono hw1)⟩
    |some cx=>
     rw[hx]at hcp;obtain⟨sv,rfl,hsg⟩:=hcp;obtain⟨sa,sc,rfl⟩:=hsg.form;have HN:Hid (fZ (dX f) (parted l)=(fZ (dX f) ((parted l).drop (i+1))).map (fun x=>(ss++[cx])++x)):=by
      show _=_;rw[HC.o.eq,HE.o,WC hx,Option.map_map];congr 1
      funext x
      simp
     have PA:∀o,Hid (AA (aQ f) (DZ w1.heap.size (w2.alloc o) (.slice ua ss.length uc)) (w2.alloc o) cx [.slice sa cx.length sc]):=fun o=>HC.o.row.apart hF.o (show AA (aQ f) (oD wr.heap.size w2) w2 cx [.slice sa cx.length sc] from⟨_,rfl,hsg⟩) hsr Ab (fun g hg=>Below.heap_alloc _ _ _ hg);obtain⟨cs,hown,pX⟩:=(M2.o.alloc hF.o (.cells #[.slice sa cx.length sc] 148));have HO:=hid hown;have Wx:=hid pX;clear hx hsg hown pX
     go_wp2_with(at_builtin;go_must(refine wpList_append_own_at _ rfl _ _ 98 rfl w1.heap.size 148 iT (.slice none 0 0) 1 24 Tryz.underlying98 HI.o.1 HI.o.2.1 HI.o.2.2.1 HI.o.2.2.2 rfl oo (.slice ua ss.length uc) ss.length cs rfl HO.o ⟨w2.heap.size,0,none⟩ 1 1 [.slice sa cx.length sc] rfl rfl (nO _ _ _) (by simp[Value.oneCell']) As oo An ?_));intro v4 w4 hown4 dS _ oh;have hlo:∀rr,Value.ownBlock (.slice ua ss.length uc)=some rr->w1.heap.size<=rr:=fun rr hr=>(HO.o.lt rr hr).1;have hb4:Below w1.heap.size w2 w4:=(Ax.alloc oo _).grown dS An hlo;have FZ:Hid (RlI f B w w1 l vs (.slice (some ⟨g,0,none⟩) ps.length qc) v4 (ss++[cx]) (i+1) w4):=⟨MG.snoc hF.o Wx.o (PA _).o hown4 dS (by simpa using oh),aP P2.o fun k hk=>by
       have hk1:k=g:=by simp[Value.ownBlock]at hk;exact hk.symm
       have hg1:g<w1.heap.size:=HC.o.plt g rfl;exact hb4.block k oo,S2.o.low hb4 oo,B2.o.trans hb4,HN.o,by have:=HC.o.ln;simp;omega,HC.o.plt⟩
     clear hown4 dS oh hb4 hlo;go_wp2_with fail;go_roundg(ps.length-(i+1));case measure=>omega
     case rel=>exact⟨_,ss++[cx],i+1,rfl,by congr 1,oo,by have:=HC.o.ln;simp;omega,FZ.o⟩
   .have h1:(ps.length:Int)<=(i:Int):=oo;have HN:Hid (lM f l=some ss):=by
     show _=_;rw[HV.o,<-KP.o,HC.o.eq,List.drop_of_length_le (by rw[KP.o];omega)];simp[fZ]
    have HG:Hid (SG (AA (aQ f)) 1 (oD w.heap.size wr) wr (.slice ua ss.length uc) ss):=(HC.o.row.sl hF.o (One.sized _ _) oo).keep hF.o (xO hw1) fun _ _=>rfl;go_wp2_with fail;go_ret2
    exact⟨by unfold rdP;rw[HN.o];exact⟨_,rfl,HG.o⟩,B1.o.trans (HC.o.below.mono hw1)⟩
theorem Jk:∀f,vK f
 |0=>YO 0 trivial
 |f+1=>YO (f+1) (Jk f)
end
theorem vW(sep:BY):∀(l:List BY),(jX sep l).size<=total l+l.length*sep.size
 |[]=>by show 0<=_;omega
 |[a]=>by show a.size<=a.size+0+_;omega
 |a::b::r=>by have ih:=vW sep (b::r);show(a++(sep++jX sep (b::r))).size<=a.size+total (b::r)+_;rw[ByteArray.size_append,ByteArray.size_append];simp only[List.length_cons,Nat.add_mul]at ih⊢;omega
theorem WI[bV](hd:jm)(root:BY)(ss:bY)(hq:CO ss)(hr:root.size<=12)(hl:ss.length<=2097152):(jV (jc root) ss).size<=zL ss+29360128:=by
 have h1:=vW (b1 44) (ss.map (fun x=>jc root++dW x));rw[AX,List.length_map]at h1;have h2:=zf hd (jc root) ss hq;have h3:(jc root).size<=14:=by
  unfold jc;split
  .show 0<=14;omega
  .rw[ByteArray.size_append,ByteArray.size_append];show 1+(_+1)<=14;omega
 have h4:ss.length*(jc root).size<=2097152*14:=Nat.mul_le_mul hl h3;have e:(b1 44).size=1:=rfl;rw[e]at h1;omega
theorem Jl(p:aF)(l:List Nd):(tX p l).size<=Qk (decls l):=by have h1:=vW (b1 59) (((decls l).filter (kR p)).map jW);have h2:=Jh p (decls l);have e:(b1 59).size=1:=rfl;rw[e,List.length_map]at h1;unfold tX;omega
def Jm[bV](p:aF)(hd bl:List Nd):BY:=match Ot hd with|none=>aA|some ss=>yg (jV (jc p.root) ss) (tX p bl)
theorem SG.wide{α:Type}{C:wV α}{sz:Nat}(hF:Fair C){base:Nat}{w:WD}{v:Av}{l:List α}(h:SG C sz (oD base w) w v l):SG C sz (fun b=>b<w.heap.size) w v l:=h.keep hF (fun _ hg=>hg.2) (fun _ _=>rfl)
theorem Sj[bV](B:Nat)(p:aF)(pv fv av:Av)(at_:BY)(has:Bool)(hd bl:List Nd)(hv bv:Av)(w:WD)(hP:jK B w p pv fv av)(hH:Sl (fun b=>b<B) w hv hd)(hBl:Sl (fun b=>b<B) w bv bl)(hI:jD w)(hds:jm)
  (hpr:allB jh p.root=true) (AY:p.root.size<=12) (hok:gu hd) (hzl:∀ss,Ot hd=some ss->zL ss<=274877906944) (hk:∀d∈decls bl,OJ d.val) (hz:Qk (decls bl)<=274877906944):
  Calls prog 71 #[dF p pv fv av,.agg #[.string at_,hv,.bool has,bv]] w fun e w'=>e=.returned (.string (Jm p hd bl))/\Below w.heap.size w w':=by
 have hB:=hP.lt;obtain⟨pa,pc,rfl⟩:=hP.props.form;obtain⟨fa,fc,rfl⟩:=hP.aJ.form;obtain⟨aa,ac,rfl⟩:=hP.ats.form;obtain⟨ha,hc,rfl⟩:=hH.form;obtain⟨ba,bc,rfl⟩:=hBl.form;have HPR:=hid hpr;have HII:=hid hI;have HDS:Hid jm:=hds;have VJ:=hid hok;have HZL:=hid hzl;have HKD:=hid hk;have hbs:=Jl p bl;have B1:Hid (Below w.heap.size w ((w.alloc (.cells #[.string p.root,.slice pa p.props.length pc,.slice fa p.aJ.length fc,.slice aa p.ats.length ac,.bool p.aU,.bool p.texts] 82)).alloc (.cells #[.string at_,.slice ha hd.length hc,.bool has,.slice ba bl.length bc] 130))):=fJ _ _ _
 have Q1:Hid (Q6 ((w.alloc (.cells #[.string p.root,.slice pa p.props.length pc,.slice fa p.aJ.length fc,.slice aa p.ats.length ac,.bool p.aU,.bool p.texts] 82)).alloc (.cells #[.string at_,.slice ha hd.length hc,.bool has,.slice ba bl.length bc] 130)) w.heap.size (.string p.root) (.slice pa p.props.length pc) (.slice fa p.aJ.length fc) (.slice aa p.ats.length ac) (.bool p.aU) (.bool p.texts)):=(Q6.new w _ _ _ _ _ _).alloc _;have R1:Hid (Q4 130 ((w.alloc (.cells #[.string p.root,.slice pa p.props.length pc,.slice fa p.aJ.length fc,.slice aa p.ats.length ac,.bool p.aU,.bool p.texts] 82)).alloc (.cells #[.string at_,.slice ha hd.length hc,.bool has,.slice ba bl.length bc] 130)) (w.heap.size+1) (.string at_) (.slice ha hd.length hc) (.bool has) (.slice ba bl.length bc)):=by have:=Q4.new 130 (w.alloc (.cells #[.string p.root,.slice pa p.props.length pc,.slice fa p.aJ.length fc,.slice aa p.ats.length ac,.bool p.aU,.bool p.texts] 82)) (.string at_) (.slice ha hd.length hc) (.bool has) (.slice ba bl.length bc);rw[show(w.alloc (.cells #[.string p.root,.slice pa p.props.length pc,.slice fa p.aJ.length fc,.slice aa p.ats.length ac,.bool p.aU,.bool p.texts] 82)).heap.size=w.heap.size+1 by simp]at this;exact this
 have HP1:=hid (hP.below B1.o hB);have HH1:=hid (hH.below B1.o hB)
 have HB1:=hid (hBl.below B1.o hB);clear hP hH hBl hI hds hpr hok hzl hk;unfold dF;go_in;go_upto_region 1 with fail
 generalize(w.alloc (.cells #[.string p.root,.slice pa p.props.length pc,.slice fa p.aJ.length fc,.slice aa p.ats.length ac,.bool p.aU,.bool p.texts] 82)).alloc (.cells #[.string at_,.slice ha hd.length hc,.bool has,.slice ba bl.length bc] 130)=w1 at *;have hs1:=B1.o.size;obtain⟨a0,a1,a2,a3⟩:=R1.o.cs;go_wp2_with fail;refine(Jk (depth hd) B hd _ w1 nl HH1.o oo).mono ?_;rintro e w2 ⟨hrd,hb2⟩;have X2:=hid hb2;have B2:=hid (B1.o.trans (hb2.mono hs1));have hs2:=hb2.size;have Q2:=hid (Q1.o.below hb2 Q1.o.lt);have R2:=hid (R1.o.below hb2);clear hb2 a0 a1 a2 a3
 unfold rdP at hrd;cases hsel:lM (depth hd) hd with
 |none=>
  rw[hsel]at hrd;have WJ:e=_:=hrd;subst WJ;have HV:Hid (Jm p hd bl=aA):=by show _=_;unfold Jm Ot;rw[hsel]
  clear hsel;go_wp2_with fail;go_ret;exact⟨mg HV.o.symm,B2.o⟩
 |some ss=>
  rw[hsel]at hrd;obtain⟨sv,rfl,hsg⟩:=hrd;obtain⟨sa,sc,rfl⟩:=hsg.form;have hsl:=hsg.len;have Rn:Hid (SG (AA (aQ (depth hd))) 1 (fun b=>b<w2.heap.size) w2 (.slice sa ss.length sc) ss):=hsg.wide (One.fair (fO.fair (aQ.fair _)));have HQ:Hid (CO ss):=Gw _ _ _ VJ.o hsel;have hzs:=HZL.o ss hsel;have HV:Hid (Jm p hd bl=yg (jV (jc p.root) ss) (tX p bl)):=by show _=_;unfold Jm Ot;rw[hsel]
  have hls:=WI HDS.o p.root ss HQ.o AY hsl;clear hsel hsg;have Qi:Hid (Q6 w2.drew w.heap.size (.string p.root) (.slice pa p.props.length pc) (.slice fa p.aJ.length fc) (.slice aa p.ats.length ac) (.bool p.aU) (.bool p.texts)/\Q4 130 w2.drew (w.heap.size+1) (.string at_) (.slice ha hd.length hc) (.bool has) (.slice ba bl.length bc)):=⟨Q2.o.drew,R2.o⟩;have BD:Hid (Below w.heap.size w w2.drew):=B2.o.drew;have HPD:Hid (jK B w2.drew p (.slice pa p.props.length pc) (.slice fa p.aJ.length fc) (.slice aa p.ats.length ac)):=HP1.o.below (X2.o.drew) oo;have VT:Hid (Sl (fun b=>b<B) w2.drew (.slice ba bl.length bc) bl):=HB1.o.below (X2.o.drew) oo;have HSD:Hid (SG (AA (aQ (depth hd))) 1 (fun b=>b<w2.heap.size) w2.drew (.slice sa ss.length sc) ss):=Rn.o.keep (One.fair (fO.fair (aQ.fair _))) (fun _ h=>h) (fun _ _=>rfl);go_wp2_with fail
  refine wp_region_any Ao ?_;change wpAny _ _ _ _ _ _ _ (World.drew _);refine wpAny_of_held (S:=fun wx=>Q6 wx w.heap.size (.string p.root) (.slice pa p.props.length pc) (.slice fa p.aJ.length fc) (.slice aa p.ats.length ac) (.bool p.aU) (.bool p.texts)/\Q4 130 wx (w.heap.size+1) (.string at_) (.slice ha hd.length hc) (.bool has) (.slice ba bl.length bc)) _ _ _ _ ?_;refine dH 0 rfl Qi.o (by intro w hSw;obtain⟨a0,a1,a2,a3,a4,a5⟩:=hSw.1.cs;exact gs) ?_;refine dH 2 rfl Qi.o (fun _ _=>gs) ?_;refine dH 4 rfl Qi.o (by intro w hSw;obtain⟨a0,a1,a2,a3,a4,a5⟩:=hSw.1.cs;exact gs) ?_;refine dH 5 rfl Qi.o (by intro w hSw;obtain⟨a0,a1,a2,a3⟩:=hSw.2.cs;exact gs) ?_
  refine dH 6 rfl Qi.o (by intro w hSw;obtain⟨a0,a1,a2,a3⟩:=hSw.2.cs;exact gs) ?_;have C1:=aaz B p _ _ _ w2.drew HPD.o;unfold dF at C1;have C1':Hid (Calls prog 123 #[.agg #[.string p.root,.slice pa p.props.length pc,.slice fa p.aJ.length fc,.slice aa p.ats.length ac,.bool p.aU,.bool p.texts]] w2.drew fun e w'=>e=.returned (.string p.root)/\Below w2.drew.heap.size w2.drew w'):=C1;clear C1;refine iW 1 fun K hK=>?_;go_simp;refine C1'.o.mono ?_;rintro e w3 ⟨rfl,hb3⟩;have X3:Hid (Below w2.heap.size w2.drew w3):=hb3;have B3:Hid (Below w.heap.size w w3):=BD.o.trans (hb3.mono (by show w.heap.size<=w2.heap.size;omega));have hs3:w2.heap.size<=w3.heap.size:=hb3.size
  have OC:Hid (Q6 w3 w.heap.size (.string p.root) (.slice pa p.props.length pc) (.slice fa p.aJ.length fc) (.slice aa p.ats.length ac) (.bool p.aU) (.bool p.texts)/\Q4 130 w3 (w.heap.size+1) (.string at_) (.slice ha hd.length hc) (.bool has) (.slice ba bl.length bc)):=⟨Qi.o.1.below hb3 Qi.o.1.lt,Qi.o.2.below hb3⟩;clear hb3 C1';refine hK.o _ _ OC.o (fun _=>?_);clear hK K;have C2:Hid (Calls prog 122 #[.string p.root,.slice sa ss.length sc] w3 fun e w'=>e=.returned (.string (jV (jc p.root) ss))/\Below w3.heap.size w3 w'):=RV (depth hd) w2.heap.size p.root ss _ w3 (HSD.o.below (One.fair (fO.fair (aQ.fair _))) X3.o nl) hs3 (HII.o.below B3.o nl) HQ.o hzs HDS.o HPR.o AY
  refine iW 3 fun K hK=>?_;go_simp;refine C2.o.mono ?_;obtain⟨lo,Hlo⟩:=Nm (jV (jc p.root) ss);rw[Hlo.o]at HV hls;rw[Hlo.o];rintro e w4 ⟨rfl,hb4⟩;have X4:Hid (Below w2.heap.size w2.drew w4):=X3.o.trans (hb4.mono hs3);have B4:=hid (B3.o.trans (hb4.mono oo));have hs4:w2.heap.size<=w4.heap.size:=X4.o.size;have OD:Hid (Q6 w4 w.heap.size (.string p.root) (.slice pa p.props.length pc) (.slice fa p.aJ.length fc) (.slice aa p.ats.length ac) (.bool p.aU) (.bool p.texts)/\Q4 130 w4 (w.heap.size+1) (.string at_) (.slice ha hd.length hc) (.bool has) (.slice ba bl.length bc)):=⟨OC.o.1.below hb4 OC.o.1.lt,OC.o.2.below hb4⟩;clear hb4 C2;refine hK.o _ _ OD.o (fun _=>?_);clear hK K;have C3:=Ji B p _ _ _ bl _ w4 (HPD.o.below X4.o oo) (VT.o.below X4.o oo) HKD.o hz;unfold dF at C3
  obtain⟨bo,Hbo⟩:=Nm (tX p bl);rw[Hbo.o]at HV hbs C3;have C3':Hid (Calls prog 124 #[.agg #[.string p.root,.slice pa p.props.length pc,.slice fa p.aJ.length fc,.slice aa p.ats.length ac,.bool p.aU,.bool p.texts],.slice ba bl.length bc] w4 fun e w'=>e=.returned (.string bo)/\Below w4.heap.size w4 w'):=C3;clear C3;refine iW 7 fun K hK=>?_;go_simp;refine C3'.o.mono ?_;rintro e w5 ⟨rfl,hb5⟩;have B5:=hid (B4.o.trans (hb5.mono oo));have hs5:w.heap.size<=w5.heap.size:=B5.o.size;have HH5:Hid (Q6 w5 w.heap.size (.string p.root) (.slice pa p.props.length pc) (.slice fa p.aJ.length fc) (.slice aa p.ats.length ac) (.bool p.aU) (.bool p.texts)/\Q4 130 w5 (w.heap.size+1) (.string at_) (.slice ha hd.length hc) (.bool has) (.slice ba bl.length bc)):=⟨OD.o.1.below hb5 OD.o.1.lt,OD.o.2.below hb5⟩;clear hb5 C3'
  refine hK.o _ _ HH5.o (fun _=>?_);clear hK K;refine iW 8 fun K hK=>?_;go_simp;refine pmb (RU lo bo w5 oo) fun w6 hb6=>?_;have B6:=hid (B5.o.trans (hb6.mono hs5));have HH6:Hid (Q6 w6 w.heap.size (.string p.root) (.slice pa p.props.length pc) (.slice fa p.aJ.length fc) (.slice aa p.ats.length ac) (.bool p.aU) (.bool p.texts)/\Q4 130 w6 (w.heap.size+1) (.string at_) (.slice ha hd.length hc) (.bool has) (.slice ba bl.length bc)):=⟨HH5.o.1.below hb6 HH5.o.1.lt,HH5.o.2.below hb6⟩;clear hb6;refine hK.o _ _ HH6.o (fun _=>?_);clear hK K;refine iW 9 fun K hK=>?_;go_simp;refine hK.o _ _ (HH6.o) (fun _=>?_);clear hK K;refine wpAnyH_done Ao ?_ _;go_wp2_with fail;go_ret;exact⟨mg HV.o.symm,B6.o⟩
def AZ(p:aF)(at_:BY)(has:Bool)(hd:List Nd)(ro:BY):BY:=if (has&&p.ats.contains (small at_)&&eH p hd)=true then yg (b1 64++(dP (small at_)++qE (bare hd))) ro else aA
def vX(p:aF)(pv fv av:Av)(rs:List Rule)(ro:BY)(w:WD):Prop:=∀(u:Av) (w':WD),Below w.heap.size w w'->SG dB 4 (fun b=>b<w'.heap.size) w' u rs->Calls prog 41 #[dF p pv fv av,u] w' fun e w''=>e=.returned (.string ro)/\Below w'.heap.size w' w''
theorem ac6(B:Nat)(p:aF)(pv fv av:Av)(at_:BY)(has:Bool)(hd bl:List Nd)(hv bv:Av)(ro:BY)(w:WD)(hP:jK B w p pv fv av)(hH:Sl (fun b=>b<B) w hv hd)(hBl:Sl (fun b=>b<B) w bv bl)
  (hat:at_.size<=4000000) (hkd:OJ hd) (hwz:dL (bare hd)<=274877906944) (hro:ro.size<=549755813888) (hR:has=true->p.ats.contains (small at_)=true->eH p hd=true->vX p pv fv av (rules false bl) ro w):
  Calls prog 70 #[dF p pv fv av,.agg #[.string at_,hv,.bool has,bv]] w fun e w'=>e=.returned (.string (AZ p at_ has hd ro))/\Below w.heap.size w w':=by
 have hB:=hP.lt;obtain⟨pa,pc,rfl⟩:=hP.props.form;obtain⟨fa,fc,rfl⟩:=hP.aJ.form;obtain⟨aa,ac,rfl⟩:=hP.ats.form;obtain⟨ha,hc,rfl⟩:=hH.form;obtain⟨ba,bc,rfl⟩:=hBl.form;have HKD:=hid hkd;have HR:=hid hR;have B1:Hid (Below w.heap.size w ((w.alloc (.cells #[.string p.root,.slice pa p.props.length pc,.slice fa p.aJ.length fc,.slice aa p.ats.length ac,.bool p.aU,.bool p.texts] 82)).alloc (.cells #[.string at_,.slice ha hd.length hc,.bool has,.slice ba bl.length bc] 130))):=fJ _ _ _
 have Q1:Hid (Q6 ((w.alloc (.cells #[.string p.root,.slice pa p.props.length pc,.slice fa p.aJ.length fc,.slice aa p.ats.length ac,.bool p.aU,.bool p.texts] 82)).alloc (.cells #[.string at_,.slice ha hd.length hc,.bool has,.slice ba bl.length bc] 130)) w.heap.size (.string p.root) (.slice pa p.props.length pc) (.slice fa p.aJ.length fc) (.slice aa p.ats.length ac) (.bool p.aU) (.bool p.texts)):=(Q6.new w _ _ _ _ _ _).alloc _;have R1:Hid (Q4 130 ((w.alloc (.cells #[.string p.root,.slice pa p.props.length pc,.slice fa p.aJ.length fc,.slice aa p.ats.length ac,.bool p.aU,.bool p.texts] 82)).alloc (.cells #[.string at_,.slice ha hd.length hc,.bool has,.slice ba bl.length bc] 130)) (w.heap.size+1) (.string at_) (.slice ha hd.length hc) (.bool has) (.slice ba bl.length bc)):=by have:=Q4.new 130 (w.alloc (.cells #[.string p.root,.slice pa p.props.length pc,.slice fa p.aJ.length fc,.slice aa p.ats.length ac,.bool p.aU,.bool p.texts] 82)) (.string at_) (.slice ha hd.length hc) (.bool has) (.slice ba bl.length bc);rw[show(w.alloc (.cells #[.string p.root,.slice pa p.props.length pc,.slice fa p.aJ.length fc,.slice aa p.ats.length ac,.bool p.aU,.bool p.texts] 82)).heap.size=w.heap.size+1 by simp]at this;exact this
 have HP1:=hid (hP.below B1.o hB);have HH1:=hid (hH.below B1.o hB)
 have HB1:=hid (hBl.below B1.o hB);clear hP hH hBl hkd hR;obtain⟨sm,Hsm⟩:=Nm (small at_);have amN:sm.size<=4000000:=by rw[<-Hsm.o,jE];exact hat
 unfold dF;go_in;go_upto_region 1 with fail
 generalize(w.alloc (.cells #[.string p.root,.slice pa p.props.length pc,.slice fa p.aJ.length fc,.slice aa p.ats.length ac,.bool p.aU,.bool p.texts] 82)).alloc (.cells #[.string at_,.slice ha hd.length hc,.bool has,.slice ba bl.length bc] 130)=w1 at *;have hs1:=B1.o.size;obtain⟨a0,a1,a2,a3⟩:=R1.o.cs;go_wp2_with fail;refine(nH at_ w1 hat).mono ?_;rw[Hsm.o];rintro e w2 ⟨rfl,hb2⟩;have X2:=hid hb2;have B2:=hid (B1.o.trans (hb2.mono hs1));have hs2:=hb2.size;have Q2:=hid (Q1.o.below hb2 Q1.o.lt);have R2:=hid (R1.o.below hb2);clear hb2 a0 a1 a2 a3
 obtain⟨a0,a1,a2,a3⟩:=R2.o.cs;obtain⟨q0,q1,q2,q3,q4,q5⟩:=Q2.o.cs;have HDF:Hid (AZ p at_ has hd ro=if (has&&p.ats.contains sm&&eH p hd)=true then yg (b1 64++(dP sm++qE (bare hd))) ro else aA):=by show _=_;unfold AZ;rw[Hsm.o]
 rw[Hsm.o]at HR;cases has
 .have HV:Hid (AZ p at_ false hd ro=aA):=HDF.o;go_wp2_with fail;go_ret;exact⟨mg HV.o.symm,B2.o⟩
 .have C1:=LJ B p _ _ _ w2 sm (HP1.o.below X2.o oo);unfold dF at C1;obtain⟨z1,Hz1⟩:=Nm (p.ats.contains sm);rw[Hz1.o]at C1 HDF HR;have C1':Hid (Calls prog 116 #[.agg #[.string p.root,.slice pa p.props.length pc,.slice fa p.aJ.length fc,.slice aa p.ats.length ac,.bool p.aU,.bool p.texts],.string sm] w2 fun e w'=>e=.returned (.bool z1)/\Below w2.heap.size w2 w'):=C1;clear C1;go_wp2_with fail;refine C1'.o.mono ?_;rintro e w3 ⟨rfl,hb3⟩;have X3:=hid (X2.o.trans (hb3.mono hs2));have B3:=hid (B1.o.trans (X3.o.mono hs1));have hs3:=X3.o.size;have Q3':Hid (Q6 w3 w.heap.size (.string p.root) (.slice pa p.props.length pc) (.slice fa p.aJ.length fc) (.slice aa p.ats.length ac) (.bool p.aU) (.bool p.texts)):=Q2.o.below hb3 Q2.o.lt
  have R3:=hid (R2.o.below hb3);clear hb3 a0 a1 a2 a3 q0 q1 q2 q3 q4 q5 C1';obtain⟨a0,a1,a2,a3⟩:=R3.o.cs;obtain⟨q0,q1,q2,q3,q4,q5⟩:=Q3'.o.cs;cases z1
  .have HV:Hid (AZ p at_ true hd ro=aA):=HDF.o;go_wp2_with fail;go_ret;exact⟨mg HV.o.symm,B3.o⟩
  .have C2:=Dh hd B p (.slice pa p.props.length pc) (.slice fa p.aJ.length fc) (.slice aa p.ats.length ac) (.slice ha hd.length hc) w3 (HP1.o.below X3.o oo) (HH1.o.below X3.o oo) HKD.o;unfold dF at C2;obtain⟨z2,Hz2⟩:=Nm (eH p hd);rw[Hz2.o]at C2 HDF HR;have C2':Hid (Calls prog 117 #[.agg #[.string p.root,.slice pa p.props.length pc,.slice fa p.aJ.length fc,.slice aa p.ats.length ac,.bool p.aU,.bool p.texts],.slice ha hd.length hc] w3 fun e w'=>e=.returned (.bool z2)/\Below w3.heap.size w3 w'):=C2;clear C2;go_wp2_with fail;refine C2'.o.mono ?_;rintro e w4 ⟨rfl,hb4⟩;have X4:=hid (X3.o.trans (hb4.mono hs3));have B4:=hid (B1.o.trans (X4.o.mono hs1));have hs4:=X4.o.size
   have Q4':Hid (Q6 w4 w.heap.size (.string p.root) (.slice pa p.props.length pc) (.slice fa p.aJ.length fc) (.slice aa p.ats.length ac) (.bool p.aU) (.bool p.texts)):=Q3'.o.below hb4 Q3'.o.lt;have R4:=hid (R3.o.below hb4);clear hb4 a0 a1 a2 a3 q0 q1 q2 q3 q4 q5 C2';cases z2
   .have HV:Hid (AZ p at_ true hd ro=aA):=HDF.o;go_wp2_with fail;go_ret;exact⟨mg HV.o.symm,B4.o⟩
   .have HV:Hid (AZ p at_ true hd ro=yg (b1 64++(dP sm++qE (bare hd))) ro):=HDF.o;have HRR:Hid (vX p (.slice pa p.props.length pc) (.slice fa p.aJ.length fc) (.slice aa p.ats.length ac) (rules false bl) ro w):=HR.o (by first|rfl|trivial) (by first|rfl|trivial) (by first|rfl|trivial);have hhs:(b1 64++(dP sm++qE (bare hd))).size<=274894906947:=by
     have h1:=fQ sm;have h2:=Jf (bare hd);rw[ByteArray.size_append,ByteArray.size_append];show 1+_<=_;omega
    have OD:Hid (Q6 w4.drew w.heap.size (.string p.root) (.slice pa p.props.length pc) (.slice fa p.aJ.length fc) (.slice aa p.ats.length ac) (.bool p.aU) (.bool p.texts)/\Q4 130 w4.drew (w.heap.size+1) (.string at_) (.slice ha hd.length hc) (.bool true) (.slice ba bl.length bc)):=⟨Q4'.o.drew,R4.o⟩;have X4D:Hid (Below w1.heap.size w1 w4.drew):=X4.o.drew;have B4D:Hid (Below w.heap.size w w4.drew):=B4.o.drew;go_wp2_with fail;refine wp_region_any Ao ?_;change wpAny _ _ _ _ _ _ _ (World.drew _);refine wpAny_of_held (S:=fun wx=>Q6 wx w.heap.size (.string p.root) (.slice pa p.props.length pc) (.slice fa p.aJ.length fc) (.slice aa p.ats.length ac) (.bool p.aU) (.bool p.texts)/\Q4 130 wx (w.heap.size+1) (.string at_) (.slice ha hd.length hc) (.bool true) (.slice ba bl.length bc)) _ _ _ _ ?_
    refine dH 0 rfl OD.o (fun _ _=>gs) ?_;refine dH 1 rfl OD.o (by intro w hSw;obtain⟨a0,a1,a2,a3⟩:=hSw.2.cs;exact gs) ?_;refine dH 2 rfl OD.o (by intro w hSw;obtain⟨a0,a1,a2,a3⟩:=hSw.2.cs;exact gs) ?_;refine dH 5 rfl OD.o (by intro w hSw;obtain⟨a0,a1,a2,a3,a4,a5⟩:=hSw.1.cs;exact gs) ?_;refine dH 6 rfl OD.o (by intro w hSw;obtain⟨a0,a1,a2,a3⟩:=hSw.2.cs;exact gs) ?_;refine dH 7 rfl OD.o (by intro w hSw;obtain⟨a0,a1,a2,a3⟩:=hSw.2.cs;exact gs) ?_;refine iW 3 fun K hK=>?_;go_simp;refine(tu B hd _ w4.drew (HH1.o.below X4D.o oo)).mono ?_;rintro e w5 ⟨v5,rfl,hS5,hw5⟩;subst hw5;obtain⟨ta,tc,rfl⟩:=hS5.form
    have HS5:Hid (Sl (fun b=>b<B) w4.drew (.slice ta (bare hd).length tc) (bare hd)):=hS5;clear hS5;refine hK.o _ _ OD.o (fun _=>?_);clear hK K;refine iW 4 fun K hK=>?_;go_simp;refine(ac0 B sm (bare hd) _ w4.drew HS5.o (by show B<=w4.heap.size;omega) amN oo).mono ?_;obtain⟨ho,Hho⟩:=Nm (b1 64++(dP sm++qE (bare hd)));rw[Hho.o]at HV hhs;rw[Hho.o];rintro e w6 ⟨rfl,hb6⟩;have X6:=hid (X4D.o.trans (hb6.mono hs4));have B6:=hid (B1.o.trans (X6.o.mono hs1));have hs6:=X6.o.size
    have HH6:Hid (Q6 w6 w.heap.size (.string p.root) (.slice pa p.props.length pc) (.slice fa p.aJ.length fc) (.slice aa p.ats.length ac) (.bool p.aU) (.bool p.texts)/\Q4 130 w6 (w.heap.size+1) (.string at_) (.slice ha hd.length hc) (.bool true) (.slice ba bl.length bc)):=⟨OD.o.1.below hb6 OD.o.1.lt,OD.o.2.below hb6⟩;clear hb6;refine hK.o _ _ HH6.o (fun _=>?_);clear hK K;refine iW 8 fun K hK=>?_;go_simp;refine(Ro B bl _ w6 (HB1.o.below X6.o oo) oo).mono ?_;rintro e w7 ⟨u7,rfl,ajs,hb7⟩;obtain⟨ra,rc,rfl⟩:=ajs.form;have B7:=hid (B6.o.trans (hb7.mono oo));have hs7:=B7.o.size
    have HH7:Hid (Q6 w7 w.heap.size (.string p.root) (.slice pa p.props.length pc) (.slice fa p.aJ.length fc) (.slice aa p.ats.length ac) (.bool p.aU) (.bool p.texts)/\Q4 130 w7 (w.heap.size+1) (.string at_) (.slice ha hd.length hc) (.bool true) (.slice ba bl.length bc)):=⟨HH6.o.1.below hb7 HH6.o.1.lt,HH6.o.2.below hb7⟩;have C7:=HRR.o _ w7 B7.o ajs;unfold dF at C7;have C7':Hid (Calls prog 41 #[.agg #[.string p.root,.slice pa p.props.length pc,.slice fa p.aJ.length fc,.slice aa p.ats.length ac,.bool p.aU,.bool p.texts],.slice ra (rules false bl).length rc] w7 fun e w''=>e=.returned (.string ro)/\Below w7.heap.size w7 w''):=C7;clear hb7 ajs C7;refine hK.o _ _ HH7.o (fun _=>?_);clear hK K;refine iW 9 fun K hK=>?_;go_simp;refine C7'.o.mono ?_;rintro e w8 ⟨rfl,hb8⟩;have B8:=hid (B7.o.trans (hb8.mono hs7));have hs8:=B8.o.size
    have HH8:Hid (Q6 w8 w.heap.size (.string p.root) (.slice pa p.props.length pc) (.slice fa p.aJ.length fc) (.slice aa p.ats.length ac) (.bool p.aU) (.bool p.texts)/\Q4 130 w8 (w.heap.size+1) (.string at_) (.slice ha hd.length hc) (.bool true) (.slice ba bl.length bc)):=⟨HH7.o.1.below hb8 HH7.o.1.lt,HH7.o.2.below hb8⟩;clear hb8 C7';refine hK.o _ _ HH8.o (fun _=>?_);clear hK K;refine iW 10 fun K hK=>?_;go_simp;refine pmb (RU ho ro w8 oo) fun w9 hb9=>?_;have B9:=hid (B8.o.trans (hb9.mono hs8));have HH9:Hid (Q6 w9 w.heap.size (.string p.root) (.slice pa p.props.length pc) (.slice fa p.aJ.length fc) (.slice aa p.ats.length ac) (.bool p.aU) (.bool p.texts)/\Q4 130 w9 (w.heap.size+1) (.string at_) (.slice ha hd.length hc) (.bool true) (.slice ba bl.length bc)):=⟨HH8.o.1.below hb9 HH8.o.1.lt,HH8.o.2.below hb9⟩;clear hb9
    refine hK.o _ _ HH9.o (fun _=>?_);clear hK K;refine iW 11 fun K hK=>?_;go_simp;refine hK.o _ _ (HH9.o) (fun _=>?_);clear hK K;refine wpAnyH_done Ao ?_ _;go_wp2_with fail;go_ret;exact⟨mg HV.o.symm,B9.o⟩
theorem vX.later{p:aF}{pv fv av:Av}{rs:List Rule}{ro:BY}{w w':WD}(h:vX p pv fv av rs ro w)(hb:Below w.heap.size w w'):vX p pv fv av rs ro w':=fun u w'' hb2 hs=>h u w'' (hb.trans (hb2.mono hb.size)) hs
def kE[bV](p:aF)(rec:List Nd->BY)(r:Rule):BY:=match r.at_ with|some x=>AZ p x r.body.isSome r.head (rec (r.body.getD []))|none=>Jm p r.head (r.body.getD [])
structure FH(p:aF)(pv fv av:Av)(rec:List Nd->BY)(w:WD)(r:Rule):Prop where
 okh:gu r.head
 kdh:OJ r.head
 body:r.at_=none->r.body.isSome=true
 wz:dL (bare r.head)<=274877906944
 sel:∀ss,Ot r.head=some ss->zL ss<=274877906944
 dk:r.at_=none->∀d∈decls (r.body.getD []),OJ d.val
 dz:r.at_=none->Qk (decls (r.body.getD []))<=274877906944
 rsz:(rec (r.body.getD [])).size<=549755813888
 rok:∀x b,r.at_=some x->r.body=some b->vX p pv fv av (rules false b) (rec b) w
theorem FH.later{p:aF}{pv fv av:Av}{rec:List Nd->BY}{w w':WD}{r:Rule}(h:FH p pv fv av rec w r)(hb:Below w.heap.size w w'):FH p pv fv av rec w' r:=⟨h.okh,h.kdh,h.body,h.wz,h.sel,h.dk,h.dz,h.rsz,fun x b h1 h2=>(h.rok x b h1 h2).later hb⟩
theorem LG.rul{S:Nat->Prop}{w:WD}{l:List Rule}{g o i:Nat}(h:LG dB 4 S w l g o)(hi:i<l.length):S g/\∃hv bv bl,w.cell? ⟨g,o+i*4,none⟩=some (.string (l[i].at_.getD aA))/\w.cell? ⟨g,o+i*4+1,none⟩=some hv/\w.cell? ⟨g,o+i*4+2,none⟩=some (.bool l[i].body.isSome)/\w.cell? ⟨g,o+i*4+3,none⟩=some bv/\Sl S w hv l[i].head/\Sl S w bv bl/\(∀b,l[i].body=some b->bl=b)/\(∀x,l[i].at_=some x->x≠aA/\x.size<=4000000):=by obtain⟨h0,cs,⟨hv,bv,bl,rfl,hs,hp,hb,ha⟩,hc⟩:=h.at l g o i hi;refine⟨h0,hv,bv,bl,?_,hc 1 _ rfl,hc 2 _ rfl,hc 3 _ rfl,hs,hp,hb,ha⟩;have:=hc 0 _ rfl;rwa[Nat.add_zero]at this
theorem WL[bV](B:Nat)(p:aF)(pv fv av:Av)(rec:List Nd->BY)(r:Rule)(hv bv:Av)(bl:List Nd)(w:WD)(hP:jK B w p pv fv av)(hH:Sl (fun b=>b<B) w hv r.head)(hBl:Sl (fun b=>b<B) w bv bl)(hb:∀b,r.body=some b->bl=b)(ha:∀x,r.at_=some x->x≠aA/\x.size<=4000000)
  (hI:jD w) (hds:jm) (hpr:allB jh p.root=true) (AY:p.root.size<=12) (h:FH p pv fv av rec w r):
  (r.at_=none->Calls prog 71 #[dF p pv fv av,.agg #[.string aA,hv,.bool r.body.isSome,bv]] w fun e w'=>e=.returned (.string (kE p rec r))/\Below w.heap.size w w') /\
  (∀x,r.at_=some x->Calls prog 70 #[dF p pv fv av,.agg #[.string x,hv,.bool r.body.isSome,bv]] w fun e w'=>e=.returned (.string (kE p rec r))/\Below w.heap.size w w'):=by
 constructor
 .intro hn;have hbs:=h.body hn;obtain⟨b,hbb⟩:=Option.isSome_iff_exists.1 hbs;have hdk:=h.dk hn;have hdz:=h.dz hn;have e:=hb b hbb;subst e;rw[hbb]at hdk hdz;have hv:kE p rec r=Jm p r.head bl:=by unfold kE;rw[hn,hbb];rfl
  rw[hv];exact Sj B p pv fv av aA r.body.isSome r.head bl _ bv w hP hH hBl hI hds hpr AY h.okh h.sel hdk hdz
 .intro x hx;have hx2:=ha x hx;have hv:kE p rec r=AZ p x r.body.isSome r.head (rec (r.body.getD [])):=by unfold kE;rw[hx]
  rw[hv];refine ac6 B p pv fv av x r.body.isSome r.head bl _ bv (rec (r.body.getD [])) w hP hH hBl hx2.2 h.kdh h.wz h.rsz (fun hs _ _=>?_);obtain⟨b,hbb⟩:=Option.isSome_iff_exists.1 hs;have e:=hb b hbb;subst e;rw[hbb];exact h.rok x bl hx hbb
theorem FI[bV](B:Nat)(p:aF)(pv fv av:Av)(rec:List Nd->BY)(rs:List Rule)(v:Av)(w:WD)(hP:jK B w p pv fv av)(h:SG dB 4 (fun b=>b<B) w v rs)
  (hI:jD w) (hds:jm) (hpr:allB jh p.root=true) (AY:p.root.size<=12) (hr:∀r∈rs,FH p pv fv av rec w r) (ht:total (rs.map (kE p rec))<=1099511627776):
  Calls prog 41 #[dF p pv fv av,v] w fun e w'=>e=.returned (.string (aG (rs.map (kE p rec))))/\Below w.heap.size w w':=by
 have hB:=hP.lt;have hrl:=h.len;obtain⟨a,cap,rfl⟩:=h.form;obtain⟨pa,pc,rfl⟩:=hP.props.form;obtain⟨fa,fc,rfl⟩:=hP.aJ.form;obtain⟨aa,ac,rfl⟩:=hP.ats.form;have HR:=hid hr;have HII:=hid hI;have HDS:Hid jm:=hds;have HPR:Hid (allB jh p.root=true/\p.root.size<=12):=⟨hpr,AY⟩;have HT:=hid ht;obtain⟨iS,wK⟩:=info_str;have HI:=hid wK;clear wK hr hI hds hpr AY ht;obtain⟨B0,Q0⟩:=Q6.nb p pa fa aa pc fc ac w
 have wX:=hid (hP.below B0.o hB);have HS0:=hid (h.below dB.fair B0.o hB);clear hP h;unfold dF;go_in;go_upto_region 1 with fail
 have hsz0:=B0.o.size;have hlt0:=Q0.o.lt;generalize w.alloc (.cells #[.string p.root,.slice pa p.props.length pc,.slice fa p.aJ.length fc,.slice aa p.ats.length ac,.bool p.aU,.bool p.texts] 82)=w0 at *;obtain⟨rb,zV⟩:=Nm w.heap.size;rw[zV.o]at B0 Q0 hB hlt0 hsz0⊢;go_wp2_with fail;go_loopg[5,10] rs.length (fun gg v5 v10 wr=>∃(u:Av) (i:Nat),u=v5/\v10=.int .i64 (i:Int)/\i+gg=rs.length/\Aside (wr.ownsRow w0.heap.size 9 1 u ((rs.take i).map (kE p rec)).length (((rs.take i).map (kE p rec)).map Value.string)/\Below w0.heap.size w0 wr));case atStart=>exact⟨_,0,rfl,rfl,oo,World.ownsRow_nil _ _ _ _,Ax⟩
 case round=>
  obtain⟨u,i,rfl,rfl,hi,hA⟩:=hrel;have O1:=hid hA.o.1;have BR:=hid hA.o.2;clear hA;have hsr:=BR.o.size;by_cases hlt:i<rs.length
  .have h1:(i:Int)<(rs.length:Int):=oo;obtain⟨g,o,rfl,hL,hcap⟩:=(HS0.o.below dB.fair BR.o oo).here (by rintro rfl;simp at hlt);obtain⟨hgB,hv,bv,bl,c0,c1,c2,c3,hhv,hbv,hbb,hat⟩:=hL.rul (i:=i) hlt;have HTK:Hid ((rs.take (i+1)).map (kE p rec)=(rs.take i).map (kE p rec)++[kE p rec rs[i]]):=by
    show _=_;rw[List.take_succ_eq_append_getElem hlt,List.map_append];rfl
   have HRR:=HR.o rs[i] (List.getElem_mem _);obtain⟨r,hr⟩:∃r,r=rs[i]:=⟨_,rfl⟩;rw[<-hr]at c0 c2 hhv hbb hat HTK HRR;have HHV:=hid hhv;have HBV:=hid hbv;have HBB:=hid hbb;have HAT:=hid hat;have HRW:=hid HRR;obtain⟨ha,hc,rfl⟩:=hhv.form;obtain⟨ba,bc,rfl⟩:=hbv.form;clear hL hr hhv hbv hbb hat HRR;have hzl:((rs.take i).map (kE p rec)).length<=i:=by rw[List.length_map,List.length_take];omega
   obtain⟨ps,KP⟩:=Nm ((rs.take i).map (kE p rec));rw[KP.o]at O1 HTK hzl;obtain⟨an,Han⟩:=Nm (r.at_.getD aA);obtain⟨hs_,Hhs⟩:=Nm r.body.isSome;rw[Han.o]at c0;rw[Hhs.o]at c2;have D2:Hid (Q4 130 (wr.alloc (.cells #[.string an,.slice ha r.head.length hc,.bool hs_,.slice ba bl.length bc] 130)) wr.heap.size (.string an) (.slice ha r.head.length hc) (.bool hs_) (.slice ba bl.length bc)):=Q4.new _ _ _ _ _ _;have X2:Hid (Below wr.heap.size wr (wr.alloc (.cells #[.string an,.slice ha r.head.length hc,.bool hs_,.slice ba bl.length bc] 130))):=Ax.alloc nl _;go_upto_region 5 with fail
   generalize wr.alloc (.cells #[.string an,.slice ha r.head.length hc,.bool hs_,.slice ba bl.length bc] 130)=w2 at *;obtain⟨gt,mV⟩:=Nm wr.heap.size;have D3:Hid (Q4 130 w2 gt (.string an) (.slice ha r.head.length hc) (.bool hs_) (.slice ba bl.length bc)):=by rw[<-mV.o];exact D2.o
   rw[mV.o];clear D2 c0 c1 c2 c3;have B2:=hid (BR.o.trans (X2.o.mono hsr));have BW:=hid (B0.o.trans (B2.o.mono hsz0));have hs2:=X2.o.size;have O2:Hid (w2.ownsRow w0.heap.size 9 1 u ps.length (ps.map Value.string)):=aP O1.o fun r hr=>X2.o.block r (O1.o.lt r hr).2;obtain⟨a0,a1,a2,a3⟩:=D3.o.cs;have Q2:=Q0.o.below B2.o oo;obtain⟨q0,q1,q2,q3,q4,q5⟩:=Q2.cs;clear Q2;have CC:=WL B p (.slice pa p.props.length pc) (.slice fa p.aJ.length fc) (.slice aa p.ats.length ac) rec r (.slice ha r.head.length hc) (.slice ba bl.length bc) bl w2 (wX.o.below B2.o oo) (HHV.o.below X2.o oo) (HBV.o.below X2.o oo) HBB.o HAT.o (HII.o.below (by rw[zV.o];exact BW.o) nl) HDS.o HPR.o.1 HPR.o.2 (HRW.o.later (by rw[zV.o];exact BW.o));rw[Hhs.o]at CC;obtain⟨y,Hy⟩:=Nm (kE p rec r);rw[Hy.o]at CC HTK;unfold dF at CC
   have FIN:Hid (∀(v6:Av) (w6:WD),w6.ownsRow w0.heap.size 9 1 v6 (ps.length+1) (ps.map Value.string++[.string y])->w6.ownsRow w0.heap.size 9 1 v6 ((rs.take (i+1)).map (kE p rec)).length (((rs.take (i+1)).map (kE p rec)).map Value.string)):=by intro v6 w6 h6;rw[HTK.o,List.length_append,List.map_append];exact h6
   cases hra:r.at_ with
   |none=>
    have he:an=aA:=by rw[<-Han.o,hra];rfl
    subst he;have CK:=hid (CC.1 hra);have ac7:aA.toList=[]:=by rw[fC];rfl
    have hie:(aA.toList==[])=true:=by rw[ac7];rfl
    have amO:aA.toList.isEmpty=true:=by rw[ac7];rfl
    clear CC hra;go_wp2_with fail;refine CK.o.mono ?_;rintro e w5 ⟨rfl,hb5⟩;have B5:=hid (B2.o.trans (hb5.mono oo));have O5:Hid (w5.ownsRow w0.heap.size 9 1 u ps.length (ps.map Value.string)):=aP O2.o fun r hr=>hb5.block r (O2.o.lt r hr).2;have hs5:=B5.o.size;clear hb5 CK a0 a1 a2 a3 q0 q1 q2 q3 q4 q5;go_wp2_with(at_builtin;go_must(refine wpList_append_own _ rfl _ _ 26 rfl w0.heap.size 9 iS (.string ⟨#[]⟩) 1 16 Tryz.underlying26 HI.o.1 HI.o.2.1 HI.o.2.2.1 HI.o.2.2.2 rfl oo u ps.length (ps.map Value.string) rfl (O5.o.alloc _) ⟨w5.heap.size,0,none⟩ 1 1 [.string y] rfl rfl (cell_one_new _ _ _) (aT _) As oo An ?_));intro v6 w6 hown6 lS _;have O6:Hid (w6.ownsRow w0.heap.size 9 1 v6 ((rs.take (i+1)).map (kE p rec)).length (((rs.take (i+1)).map (kE p rec)).map Value.string)):=FIN.o _ _ hown6
    have B6:Hid (Below w0.heap.size w0 w6):=(B5.o.alloc hs5 _).grown lS An (fun rr hr=>(O5.o.lt rr hr).1);clear hown6 lS;go_wp2_with fail;go_roundg(gk-1);case measure=>omega
    case rel=>exact⟨v6,i+1,rfl,by congr 1,oo,O6.o,B6.o⟩
   |some x=>
    have he:an=x:=by rw[<-Han.o,hra];rfl
    subst he;have CK:Hid (Calls prog 70 #[.agg #[.string p.root,.slice pa p.props.length pc,.slice fa p.aJ.length fc,.slice aa p.ats.length ac,.bool p.aU,.bool p.texts],.agg #[.string an,.slice ha r.head.length hc,.bool hs_,.slice ba bl.length bc]] w2 fun e w'=>e=.returned (.string y)/\Below w2.heap.size w2 w'):=CC.2 _ hra;have hne:=(HAT.o _ hra).1;have ac7:¬an.toList=[]:=fun e=>hne (by have:=ay an [];rw[e]at this;exact of_decide_eq_true this.symm);have hie:(an.toList==[])=false:=by cases hq:an.toList with|nil=>exact absurd hq ac7|cons _ _=>rfl
    have amO:an.toList.isEmpty=false:=by cases hq:an.toList with|nil=>exact absurd hq ac7|cons _ _=>rfl
    clear CC hra hne;go_wp2_with fail;refine CK.o.mono ?_;rintro e w5 ⟨rfl,hb5⟩;have B5:=hid (B2.o.trans (hb5.mono oo));have O5:Hid (w5.ownsRow w0.heap.size 9 1 u ps.length (ps.map Value.string)):=aP O2.o fun r hr=>hb5.block r (O2.o.lt r hr).2;have hs5:=B5.o.size;clear hb5 CK a0 a1 a2 a3 q0 q1 q2 q3 q4 q5;go_wp2_with(at_builtin;go_must(refine wpList_append_own _ rfl _ _ 26 rfl w0.heap.size 9 iS (.string ⟨#[]⟩) 1 16 Tryz.underlying26 HI.o.1 HI.o.2.1 HI.o.2.2.1 HI.o.2.2.2 rfl oo u ps.length (ps.map Value.string) rfl (O5.o.alloc _) ⟨w5.heap.size,0,none⟩ 1 1 [.string y] rfl rfl (cell_one_new _ _ _) (aT _) As oo An ?_));intro v6 w6 hown6 lS _;have O6:Hid (w6.ownsRow w0.heap.size 9 1 v6 ((rs.take (i+1)).map (kE p rec)).length (((rs.take (i+1)).map (kE p rec)).map Value.string)):=FIN.o _ _ hown6
    have B6:Hid (Below w0.heap.size w0 w6):=(B5.o.alloc hs5 _).grown lS An (fun rr hr=>(O5.o.lt rr hr).1);clear hown6 lS;go_wp2_with fail;go_roundg(gk-1);case measure=>omega
    case rel=>exact⟨v6,i+1,rfl,by congr 1,oo,O6.o,B6.o⟩
  .have h1:(rs.length:Int)<=(i:Int):=oo;have O5:Hid (wr.ownsRow w0.heap.size 9 1 u (rs.map (kE p rec)).length ((rs.map (kE p rec)).map Value.string)):=by
    have:=O1.o;rw[List.take_of_length_le oo]at this;exact this
   have hpl:(rs.map (kE p rec)).length=rs.length:=List.length_map _;obtain⟨ps,KP⟩:=Nm (rs.map (kE p rec));rw[KP.o]at O5 HT hpl;go_wp2_with fail;refine pmb (dQ ps w0.heap.size u _ O5.o oo HT.o) fun w5 hb5=>?_;have B5:=hid (B0.o.trans ((BR.o.trans (hb5.mono hsr)).mono hsz0));clear hb5;go_wp2_with fail;go_ret;exact⟨mg (by rw[<-KP.o]),by rw[zV.o];exact B5.o⟩
