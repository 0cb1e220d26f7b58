import Derived.Test.YtlliliddljkbfaaGreatDoorC4
import Derived.Test.YtlliliddljkbfaaGreatDoorC21
import Derived.Test.YtlliliddljkbfaaGreatDoorC22
namespace Go.Proofs.YtlliliddljkbfaaGreatDoor
set_option maxHeartbeats 64000000
set_option maxRecDepth 100000
open Go.Proofs.Tryz (prog)
open Go.RowKit Sp
section
attribute [local go_sem] dH dI bQ bT
def E8(l:List Nd):Prop:=∀(B:Nat) (p:aS) (pv fv av v:Value) (w:World),iO B w p pv fv av->Sl (fun b=>b<B) w v l->JR l->Calls prog 99 #[dD p pv fv av,v] w fun e w'=>e=.returned (.bool (bV p l))/\Below w.heap.size w w'
theorem MH:∀(l:List Nd) (i:Nat),JR l->JR (l.drop i)
 |l,0,h=>by simpa using h
 |[],i+1,h=>h
 |n::r,i+1,h=>by simpa using MH r i (EZ h).2.2
theorem xO(l:List Nd)(hrec:∀n∈l,E8 n.kids):E8 l:=by
 intro B p pv fv av v w hP h hkd;have Cc:=h.len;have hB:=hP.lt;have HS:Hid (Sl (fun b=>b<B) w v l):=h;have HR:Hid (∀n∈l,E8 n.kids):=hrec;have Ol:Hid (JR l):=hkd;obtain⟨a,cap,rfl⟩:=h.form;obtain⟨pa,pc,rfl⟩:=hP.props.form;obtain⟨fa,fc,rfl⟩:=hP.au.form;obtain⟨aa,ac,rfl⟩:=hP.ats.form;have HP:Hid (iO B w p (.slice pa p.props.length pc) (.slice fa p.au.length fc) (.slice aa p.ats.length ac)):=hP;clear h hrec hkd hP;obtain⟨B0,Q0⟩:=Q6.nb p pa fa aa pc fc ac w;unfold dD;go_in;go_upto_region 1 with fail
 have hsz0:=B0.o.size;have hlt0:=Q0.o.lt;generalize w.alloc (.cells #[.string p.root,.slice pa p.props.length pc,.slice fa p.au.length fc,.slice aa p.ats.length ac,.bool p.aO,.bool p.texts] 51)=w0 at *;obtain⟨rb,mF⟩:∃rb,Hid (w.heap.size=rb):=⟨_,hid rfl⟩;rw[mF.o]at B0 Q0 hB hlt0 hsz0⊢;have Ot:Hid (iO B w0 p (.slice pa p.props.length pc) (.slice fa p.au.length fc) (.slice aa p.ats.length ac)):=HP.o.below B0.o hB;have Yy:Hid (Sl (fun b=>b<B) w0 (.slice a l.length cap) l):=HS.o.below B0.o hB;clear HP HS;go_wp2_with fail;go_loopg[9] l.length (fun gg v9 wr=>∃i:Nat,v9=.int .i64 (i:Int)/\i+gg=l.length/\Aside (Below w0.heap.size w0 wr/\bV p l=bV p (l.drop i)));case atStart=>exact⟨0,rfl,oo,Below.refl _ _,by simp⟩
 case round=>
  obtain⟨i,rfl,hi,hA⟩:=hrel;have BR:Hid (Below w0.heap.size w0 wr):=hA.o.1;have HE:Hid (bV p l=bV p (l.drop i)):=hA.o.2;clear hA;have hsr:=BR.o.size;by_cases hlt:i<l.length
  .have h1:(i:Int)<(l.length:Int):=oo;have S1:=Yy.o.below BR.o oo;obtain⟨g,o,rfl,hL,hcap⟩:=S1.here (by rintro rfl;simp at hlt);obtain⟨kv,hN⟩:=hL.node (i:=i) hlt;obtain⟨n,hn⟩:∃n,n=l[i]:=⟨_,rfl⟩;have HM:Hid (n∈l):=by rw[hn];exact List.getElem_mem _
   have Hdr:Hid (l.drop i=n::l.drop (i+1)):=by show _=_;rw[hn];exact List.drop_eq_getElem_cons hlt
   rw[<-hn]at hN;have HKS:Hid (Me n.t=true/\JR n.kids):=by have:=MH l i Ol.o;rw[Hdr.o]at this;exact⟨(EZ this).1,(EZ this).2.1⟩
   have HE2:Hid (bV p l=(fE p n.t&&bV p n.kids&&bV p (l.drop (i+1)))):=by show _=_;rw[HE.o,Hdr.o,mW]
   have hwd:=hN.ok.word;have KH:Hid (Sl (fun b=>b<B) wr kv n.kids):=hN.k;obtain⟨ka,kc,rfl⟩:=hN.k.form;have d0:=hN.c0;have d1:=hN.c1;have d2:=hN.c2;have d3:=hN.c3;clear hN hL S1 hn;have A2:Hid (VB (wr.alloc (.cells #[.int .i64 n.t.kind,.string n.t.word,.string n.t.unit,.slice ka n.kids.length kc] 168)) wr.heap.size (.int .i64 n.t.kind) (.string n.t.word) (.string n.t.unit) (.slice ka n.kids.length kc)):=VB.new _ _ _ _ _;have X2:Hid (Below wr.heap.size wr (wr.alloc (.cells #[.int .i64 n.t.kind,.string n.t.word,.string n.t.unit,.slice ka n.kids.length kc] 168))):=(Below.refl _ _).alloc nl _;go_upto_region 4 with fail
   generalize wr.alloc (.cells #[.int .i64 n.t.kind,.string n.t.word,.string n.t.unit,.slice ka n.kids.length kc] 168)=w2 at *;obtain⟨gt,oU⟩:∃gt,Hid (wr.heap.size=gt):=⟨_,hid rfl⟩;have A3:Hid (VB w2 gt (.int .i64 n.t.kind) (.string n.t.word) (.string n.t.unit) (.slice ka n.kids.length kc)):=by rw[<-oU.o];exact A2.o
   rw[oU.o];clear A2 d0 d1 d2 d3;obtain⟨a0,a1,a2,a3⟩:=A3.o.cs;have B2:Hid (Below w0.heap.size w0 w2):=BR.o.trans (X2.o.mono hsr);have hs2:=B2.o.size;have Q2:=Q0.o.below B2.o hlt0;obtain⟨q0,q1,q2,q3,q4,q5⟩:=Q2.cs;clear Q2;have HMB:=Zn B p _ _ _ n.t ka n.kids.length kc w2 (Ot.o.below B2.o oo) HKS.o.1 hwd;obtain⟨z,Hz⟩:∃z,Hid (fE p n.t=z):=⟨_,hid rfl⟩;rw[Hz.o]at HMB HE2;unfold dD dM at HMB;have adf:Hid (Calls prog 175 #[.agg #[.string p.root,.slice pa p.props.length pc,.slice fa p.au.length fc,.slice aa p.ats.length ac,.bool p.aO,.bool p.texts],.agg #[.int .i64 n.t.kind,.string n.t.word,.string n.t.unit,.slice ka n.kids.length kc]] w2 fun e w'=>e=.returned (.bool z)/\Below w2.heap.size w2 w'):=HMB;clear HMB;go_wp2_with fail;refine adf.o.mono ?_;rintro e w3 ⟨rfl,hb3⟩;have B3:Hid (Below w0.heap.size w0 w3):=B2.o.trans (hb3.mono hs2)
   have A4:Hid (VB w3 gt (.int .i64 n.t.kind) (.string n.t.word) (.string n.t.unit) (.slice ka n.kids.length kc)):=A3.o.below hb3;have K3:Hid (Sl (fun b=>b<B) w3 (.slice ka n.kids.length kc) n.kids):=(KH.o.below X2.o oo).below hb3 oo;have hs3:=B3.o.size;clear hb3 a0 a1 a2 a3 q0 q1 q2 q3 q4 q5 adf;obtain⟨a0,a1,a2,a3⟩:=A4.o.cs;have Wj:=Q0.o.below B3.o hlt0;obtain⟨q0,q1,q2,q3,q4,q5⟩:=Wj.cs;clear Wj;cases z
   .have HV:Hid (bV p l=false):=HE2.o;go_wp2_with fail;go_ret;exact⟨aI HV.o.symm,by rw[mF.o];exact B0.o.trans (B3.o.mono hsz0)⟩
   .have HC:=HR.o n HM.o B p (.slice pa p.props.length pc) (.slice fa p.au.length fc) (.slice aa p.ats.length ac) (.slice ka n.kids.length kc) w3 (Ot.o.below B3.o oo) K3.o HKS.o.2;obtain⟨z2,KI⟩:∃z,Hid (bV p n.kids=z):=⟨_,hid rfl⟩;rw[KI.o]at HC HE2;unfold dD at HC;have Ib:Hid (Calls prog 99 #[.agg #[.string p.root,.slice pa p.props.length pc,.slice fa p.au.length fc,.slice aa p.ats.length ac,.bool p.aO,.bool p.texts],.slice ka n.kids.length kc] w3 fun e w'=>e=.returned (.bool z2)/\Below w3.heap.size w3 w'):=HC;clear HC;go_wp2_with fail;refine Ib.o.mono ?_;rintro e w4 ⟨rfl,hb4⟩;have B4:Hid (Below w0.heap.size w0 w4):=B3.o.trans (hb4.mono hs3);clear hb4 Ib a0 a1 a2 a3 q0 q1 q2 q3 q4 q5;cases z2
    .have HV:Hid (bV p l=false):=HE2.o;go_wp2_with fail;go_ret;exact⟨aI HV.o.symm,by rw[mF.o];exact B0.o.trans (B4.o.mono hsz0)⟩
    .have HV:Hid (bV p l=bV p (l.drop (i+1))):=HE2.o;go_wp2_with fail;go_roundg(gk-1);case measure=>omega
     case rel=>exact⟨i+1,by congr 1,oo,B4.o,HV.o⟩
  .have h1:(l.length:Int)<=(i:Int):=oo;have HV:Hid (bV p l=true):=by show _=_;rw[HE.o,List.drop_of_length_le oo];rfl
   go_wp2_with fail;go_ret;exact⟨aI HV.o.symm,by rw[mF.o];exact B0.o.trans (BR.o.mono hsz0)⟩
theorem Ic:∀(k:Nat) (l:List Nd),fB l<=k->E8 l:=by
 intro k;induction k with
 |zero=>intro l h;refine xO l fun n hn=>?_;have:=nS l n hn;obtain⟨t,q⟩:=n;unfold GH at this;omega
 |succ k ih=>intro l h;refine xO l fun n hn=>ih _ ?_;have:=nS l n hn;obtain⟨t,q⟩:=n;unfold GH at this;show fB q<=k;omega
theorem Af(l:List Nd):E8 l:=Ic _ l nl
end
section
attribute [local go_sem] dH dI bQ bT
section
variable (B:Nat) (p:aS) (pv fv av:Value) (w:World)
theorem TN(h:iO B w p pv fv av):Calls prog 105 #[dD p pv fv av] w fun e w'=>e=.returned (.string p.root)/\Below w.heap.size w w':=by obtain⟨pa,pc,rfl⟩:=h.props.form;obtain⟨fa,fc,rfl⟩:=h.au.form;obtain⟨aa,ac,rfl⟩:=h.ats.form;have B0:Hid (Below w.heap.size w (w.alloc (.cells #[.string p.root,.slice pa p.props.length pc,.slice fa p.au.length fc,.slice aa p.ats.length ac,.bool p.aO,.bool p.texts] 51))):=(Below.refl _ _).alloc nl _;clear h;unfold dD;go_in;go_wp2_with fail;go_ret;exact⟨rfl,B0.o⟩
theorem Ie(x:ByteArray)(h:iO B w p pv fv av):Calls prog 98 #[dD p pv fv av,.string x] w fun e w'=>e=.returned (.bool (p.ats.contains x))/\Below w.heap.size w w':=by obtain⟨pa,pc,rfl⟩:=h.props.form;obtain⟨fa,fc,rfl⟩:=h.au.form;obtain⟨aa,ac,rfl⟩:=h.ats.form;have B0:Hid (Below w.heap.size w (w.alloc (.cells #[.string p.root,.slice pa p.props.length pc,.slice fa p.au.length fc,.slice aa p.ats.length ac,.bool p.aO,.bool p.texts] 51))):=(Below.refl _ _).alloc nl _;have HA:Hid (SG iI 1 (fun b=>b<B) (w.alloc (.cells #[.string p.root,.slice pa p.props.length pc,.slice fa p.au.length fc,.slice aa p.ats.length ac,.bool p.aO,.bool p.texts] 51)) (.slice aa p.ats.length ac) p.ats):=h.ats.below iI.fair B0.o h.lt;clear h;unfold dD;go_in;go_wp2_with fail;refine pmb (Wh _ p.ats _ x _ HA.o) fun wq hwq=>?_;rw[hwq];go_wp2_with fail;go_ret;exact⟨rfl,B0.o⟩
theorem DC(x:ByteArray)(h:iO B w p pv fv av):Calls prog 179 #[dD p pv fv av,.string x] w fun e w'=>e=.returned (.bool (if custom x=true then p.aO else p.props.contains x))/\Below w.heap.size w w':=by
 obtain⟨pa,pc,rfl⟩:=h.props.form;obtain⟨fa,fc,rfl⟩:=h.au.form;obtain⟨aa,ac,rfl⟩:=h.ats.form;have B0:Hid (Below w.heap.size w (w.alloc (.cells #[.string p.root,.slice pa p.props.length pc,.slice fa p.au.length fc,.slice aa p.ats.length ac,.bool p.aO,.bool p.texts] 51))):=(Below.refl _ _).alloc nl _;have HA:Hid (SG iI 1 (fun b=>b<B) (w.alloc (.cells #[.string p.root,.slice pa p.props.length pc,.slice fa p.au.length fc,.slice aa p.ats.length ac,.bool p.aO,.bool p.texts] 51)) (.slice pa p.props.length pc) p.props):=h.props.below iI.fair B0.o h.lt
 have Q0:Hid (Q6 (w.alloc (.cells #[.string p.root,.slice pa p.props.length pc,.slice fa p.au.length fc,.slice aa p.ats.length ac,.bool p.aO,.bool p.texts] 51)) w.heap.size (.string p.root) (.slice pa p.props.length pc) (.slice fa p.au.length fc) (.slice aa p.ats.length ac) (.bool p.aO) (.bool p.texts)):=Q6.new _ _ _ _ _ _ _;clear h;obtain⟨z,Hz⟩:∃z,Hid (custom x=z):=⟨_,hid rfl⟩;rw[Hz.o];unfold dD;go_in;go_wp2_with fail;generalize w.alloc (.cells #[.string p.root,.slice pa p.props.length pc,.slice fa p.au.length fc,.slice aa p.ats.length ac,.bool p.aO,.bool p.texts] 51)=w0 at *;obtain⟨q0,q1,q2,q3,q4,q5⟩:=Q0.o.cs;refine(Eu x _).mono ?_;rw[Hz.o];rintro e wq ⟨rfl,hwq⟩;rw[hwq];clear hwq;cases z
 .go_wp2_with fail;refine pmb (Wh _ p.props _ x _ HA.o) fun wq hwq=>?_;rw[hwq];go_wp2_with fail;go_ret;exact⟨rfl,B0.o⟩
 .go_wp2_with fail;go_ret;exact⟨rfl,B0.o⟩
end
def Rw(c:Int):Bool:=decide (97<=c)&&decide (c<=122)
theorem Rx(c:UInt8):Rw (c.toNat:Int)=iM c:=by unfold Rw iM;rw[Bool.eq_iff_iff];simp;omega
def Yz(c:Int):Bool:=Rw c||c==45
theorem Wn(c:UInt8):Yz (c.toNat:Int)=(iM c||c==45):=by unfold Yz;rw[Rx,show(c==45)=((c.toNat:Int)==45) from qW c 45 oo]
theorem IY(c:Int)(w:World):Calls prog 157 #[.int .u8 c] w fun e w'=>e=.returned (.bool (Rw c))/\w'=w:=by
 go_in;go_wp2
 all_goals
  go_ret;exact⟨aI (by rw[Bool.eq_iff_iff];simp[Rw, *]<;>omega),rfl⟩
theorem DF(c:Int)(w:World):Calls prog 226 #[.int .u8 c] w fun e w'=>e=.returned (.bool (Yz c))/\w'=w:=by
 cases h1:Rw c;all_goals
  go_in;go_wp2_with(go_at_call 157;refine(IY _ _).mono ?_;rintro e w' ⟨rfl,rfl⟩);go_ret;exact⟨aI (by simp[Yz,h1]),rfl⟩
theorem Wp(s:ByteArray)(g:Nat)(f:UInt8->Bool)(w:World)(hs:s.size<=4194304)
  (hg:∀(args:Array Value) (w:World),(callFunc g args).run prog w=.ok (.enter g args) w)
  (hf:∀(c:UInt8) (w:World),Calls prog g (#[.int .u8 (c.toNat:Int)] ++ #[]) w fun e w'=>e=.returned (.bool (f c))/\w'=w):
  Calls prog 156 #[.string s,.func (.func g) #[] #[]] w fun e w'=>e=.returned (.bool (allB f s))/\w'=w:=by
 have HF:Hid (∀(c:UInt8) (w:World),Calls prog g (#[.int .u8 (c.toNat:Int)] ++ #[]) w fun e w'=>e=.returned (.bool (f c))/\w'=w):=hf;clear hf;go_in;go_wp2_with fail;go_loopg[8] s.size (fun gg v8 wr=>∃k:Nat,k+gg=s.size/\v8=.int .i64 (k:Int)/\Aside (oM f s k=true/\wr=w));case atStart=>exact⟨0,oo,rfl,rfl,rfl⟩
 case round=>
  obtain⟨k,hk,rfl,hA⟩:=hrel;have HA:Hid (oM f s k=true):=hA.o.1;obtain rfl:=hA.o.2;clear hA;by_cases hlt:k<s.size
  .have h1:(k:Int)<(s.size:Int):=oo;have hix:=aV s k hlt;rw[qg hlt,xG hlt]at hix;have HC:=HF.o s[k] wr;obtain⟨z,Hz⟩:∃z,Hid (f s[k]=z):=⟨_,hid rfl⟩;rw[Hz.o]at HC;have Ib:Hid (Calls prog g (#[.int .u8 (s[k].toNat:Int)] ++ #[]) wr fun e w'=>e=.returned (.bool z)/\w'=wr):=HC;clear HC;go_wp2_with fail;refine Ib.o.mono ?_;rintro e wq ⟨rfl,hwq⟩;rw[hwq];clear hwq;cases z
   .have HV:Hid (allB f s=false):=vk f hlt Hz.o;go_wp2_with fail;go_ret;exact⟨aI HV.o.symm,rfl⟩
   .have HN:Hid (oM f s (k+1)=true):=by show _=_;rw[yG f hlt,HA.o,Hz.o];rfl
    go_wp2_with fail;go_roundg(gk-1);case measure=>omega
    case rel=>exact⟨k+1,oo,by congr 1,HN.o,rfl⟩
  .have h1:(s.size:Int)<=(k:Int):=oo;have HV:Hid (allB f s=true):=by
    show _=_;rw[<-BG];have:k=s.size:=oo;rw[<-this];exact HA.o
   go_wp2_with fail;go_ret;exact⟨aI HV.o.symm,rfl⟩
end
section
attribute [local go_sem] dH dI bQ bT
theorem MI(zs:List ByteArray)(v:Value)(g:Nat)(f:ByteArray->Bool)(S:Nat->Prop)(w:World)(h:SG iI 1 S w v zs)
  (hg:∀(args:Array Value) (w:World),(callFunc g args).run prog w=.ok (.enter g args) w)
  (hf:∀(x:ByteArray) (w:World),x.size<=4194304->Calls prog g (#[.string x] ++ #[]) w fun e w'=>e=.returned (.bool (f x))/\w'=w):
  Calls prog 134 #[v,.func (.func g) #[] #[]] w fun e w'=>∃i:Int,e=.returned (.int .i64 i)/\decide (0<=i)=zs.any f/\w'=w:=by
 have hl:=h.len;have HS:Hid (SG iI 1 S w v zs):=h;have HF:Hid (∀(x:ByteArray) (w:World),x.size<=4194304->Calls prog g (#[.string x] ++ #[]) w fun e w'=>e=.returned (.bool (f x))/\w'=w):=hf;obtain⟨a,cap,rfl⟩:=h.form;clear h hf;go_in;go_wp2_with fail;go_loopg[8] zs.length (fun gg v8 wr=>∃k:Nat,k+gg=zs.length/\v8=.int .i64 (k:Int)/\Aside (zs.any f=(zs.drop k).any f/\wr=w));case atStart=>exact⟨0,oo,rfl,by simp,rfl⟩
 case round=>
  obtain⟨k,hk,rfl,hA⟩:=hrel;have HA:Hid (zs.any f=(zs.drop k).any f):=hA.o.1;obtain rfl:=hA.o.2;clear hA;by_cases hlt:k<zs.length
  .have h1:(k:Int)<(zs.length:Int):=oo;obtain⟨g',o,rfl,hL,hcap⟩:=HS.o.here (by rintro rfl;simp at hlt);obtain⟨_,c0,hxs⟩:=hL.str (i:=k) hlt;have HA2:Hid (zs.any f=(f zs[k]||(zs.drop (k+1)).any f)):=by show _=_;rw[HA.o,List.drop_eq_getElem_cons hlt];rfl
   generalize zs[k]=x at *;have HC:=HF.o x wr hxs;obtain⟨z,Hz⟩:∃z,Hid (f x=z):=⟨_,hid rfl⟩;rw[Hz.o]at HC HA2;have Ib:Hid (Calls prog g (#[.string x] ++ #[]) wr fun e w'=>e=.returned (.bool z)/\w'=wr):=HC;clear HC hL;go_wp2_with fail;refine Ib.o.mono ?_;rintro e wq ⟨rfl,hwq⟩;rw[hwq];clear hwq;cases z
   .go_wp2_with fail;go_roundg(gk-1);case measure=>omega
    case rel=>exact⟨k+1,oo,by congr 1,HA2.o,rfl⟩
   .have HV:Hid (zs.any f=true):=HA2.o;go_wp2_with fail;go_ret;exact⟨_,rfl,by rw[HV.o];exact decide_eq_true oo,rfl⟩
  .have h1:(zs.length:Int)<=(k:Int):=oo;have HV:Hid (zs.any f=false):=by show _=_;rw[HA.o,List.drop_of_length_le oo];rfl
   go_wp2_with fail;go_ret;exact⟨_,rfl,by rw[HV.o];rfl,rfl⟩
theorem vw(zs:List ByteArray)(v:Value)(g:Nat)(f:ByteArray->Bool)(S:Nat->Prop)(w:World)(h:SG iI 1 S w v zs)
  (hg:∀(args:Array Value) (w:World),(callFunc g args).run prog w=.ok (.enter g args) w)
  (hf:∀(x:ByteArray) (w:World),x.size<=4194304->Calls prog g (#[.string x] ++ #[]) w fun e w'=>e=.returned (.bool (f x))/\w'=w):
  Calls prog 80 #[v,.func (.func g) #[] #[]] w fun e w'=>e=.returned (.bool (zs.any f))/\w'=w:=by
 have HI:Hid (Calls prog 134 #[v,.func (.func g) #[] #[]] w fun e w'=>∃i:Int,e=.returned (.int .i64 i)/\decide (0<=i)=zs.any f/\w'=w):=MI zs v g f S w h hg hf;obtain⟨a,cap,rfl⟩:=h.form;clear h hf hg;go_in;go_wp2_with fail;refine HI.o.mono ?_;rintro e wq ⟨i,rfl,hi,hwq⟩;rw[hwq];have HV:Hid (decide (0<=i)=zs.any f):=hi;clear hi hwq;go_wp2_with fail;go_ret;exact⟨aI HV.o,rfl⟩
theorem Wq(s:ByteArray)(w:World)(hs:s.size<=4194304):Calls prog 88 #[.string s] w fun e w'=>e=.returned (.bool (allB iM s&&decide (s.size<=12)))/\w'=w:=by
 have HO:Hid (Calls prog 156 #[.string s,.func (.func 157) #[] #[]] w fun e w'=>e=.returned (.bool (allB iM s))/\w'=w):=Wp s 157 iM w hs (fun _ _=>rfl) (fun c w=>by rw[<-Rx];exact IY _ w)
 by_cases h12:s.size<=12
 .have h1:(s.size:Int)<=12:=oo;have HV:Hid ((allB iM s&&decide (s.size<=12))=allB iM s):=by show _=_;rw[decide_eq_true h12];exact Bool.and_true _
  clear h12;rw[HV.o];generalize allB iM s=z at *;go_in;go_wp2_with fail;refine HO.o.mono ?_;rintro e wq ⟨rfl,hwq⟩;rw[hwq];go_wp2_with fail;go_ret;exact⟨rfl,rfl⟩
 .have h1:(12:Int)<(s.size:Int):=oo;have HV:Hid ((allB iM s&&decide (s.size<=12))=false):=by show _=_;rw[decide_eq_false h12];exact Bool.and_false _
  clear h12 HO;rw[HV.o];go_in;go_wp2_with fail;go_ret;exact⟨rfl,rfl⟩
def Fa(s:ByteArray):Bool:=!dU s
theorem Px(s:ByteArray)(w:World)(hs:s.size<=4194304):Calls prog 158 #[.string s] w fun e w'=>e=.returned (.bool (Fa s))/\w'=w:=by
 have HO:Hid (Calls prog 156 #[.string s,.func (.func 226) #[] #[]] w fun e w'=>e=.returned (.bool (allB (fun c=>iM c||c==45) s))/\w'=w):=Wp s 226 (fun c=>iM c||c==45) w hs (fun _ _=>rfl) (fun c w=>by rw[<-Wn];exact DF _ w)
 have HN:Hid (Fa s = !(allB (fun c=>iM c||c==45) s&&decide (1<=s.size)&&decide (s.size<=30))):=rfl;by_cases he:s.toList=[]
 .have hz:s.size=0:=by rw[fP]at he;rw[<-jH,he];rfl
  have HV:Hid (Fa s=true):=by show _=_;rw[HN.o,decide_eq_false (show ¬1<=s.size by omega)];simp
  clear hz HO HN;go_in;go_wp2_with fail;go_ret;exact⟨aI HV.o.symm,rfl⟩
 .have hz:1<=s.size:=by
   rcases Nat.eq_zero_or_pos s.size with h|h
   .exact absurd (by rw[fP];exact List.eq_nil_of_length_eq_zero (by rw[jH];exact h)) he
   .exact h
  have hie:s.toList.isEmpty=false:=by cases hq:s.toList with|nil=>exact absurd hq he|cons _ _=>rfl
  by_cases h30:s.size<=30
  .have h1:(s.size:Int)<=30:=oo;have HV:Hid (Fa s = !(allB (fun c=>iM c||c==45) s)):=by show _=_;rw[HN.o,decide_eq_true hz,decide_eq_true h30];simp
   clear h30 hz HN;generalize allB (fun c=>iM c||c==45) s=z at *;go_in;go_wp2_with fail;refine HO.o.mono ?_;rintro e wq ⟨rfl,hwq⟩;rw[hwq];go_wp2_with fail;go_ret;exact⟨aI (by rw[HV.o,decide_eq_false oo];rfl),rfl⟩
  .have h1:(30:Int)<(s.size:Int):=oo;have HV:Hid (Fa s=true):=by show _=_;rw[HN.o,decide_eq_false h30];simp
   clear h30 hz HN HO;go_in;go_wp2_with fail;go_ret;exact⟨aI HV.o.symm,rfl⟩
def uo(s:ByteArray):Bool:=pk s 0==45
theorem Ws(s:ByteArray):Lib.hasPrefix s.data.toList [45]=uo s:=by have h:=qV s [45] 0;rw[List.drop_zero]at h;unfold Lib.hasPrefix;rw[h];show(pk s 0==45&&true)=_;rw[Bool.and_true];rfl
theorem BH(s:ByteArray)(w:World):Calls prog 90 #[.string s] w fun e w'=>e=.returned (.bool (uo s))/\w'=w:=by have HV:Hid (Lib.hasPrefix s.data.toList [45]=uo s):=Ws s;go_in;go_wp2_with fail;refine pmb (Tryz.strings_HasPrefix s ⟨#[45]⟩ w) fun wq hwq=>?_;rw[hwq];go_wp2_with fail;go_ret;exact⟨aI HV.o,rfl⟩
def yH(zs:List ByteArray):Bool:=decide (zs.length<=20)&&zs.all dU
theorem Zq(zs:List ByteArray):(!zs.any Fa)=zs.all dU:=by
 rw[List.not_any_eq_all_not];congr 1
 funext s
 unfold Fa;exact Bool.not_not _
theorem yI(S:Nat->Prop)(zs:List ByteArray)(v:Value)(w:World)(h:SG iI 1 S w v zs):Calls prog 89 #[v] w fun e w'=>e=.returned (.bool (yH zs))/\w'=w:=by
 have hl:=h.len;have HC:Hid (Calls prog 80 #[v,.func (.func 158) #[] #[]] w fun e w'=>e=.returned (.bool (zs.any Fa))/\w'=w):=vw zs v 158 Fa S w h (fun _ _=>rfl) (fun x w hx=>Px x w hx)
 obtain⟨a,cap,rfl⟩:=h.form;clear h;by_cases h20:zs.length<=20
 .have h1:(zs.length:Int)<=20:=oo;have HV:Hid (yH zs = !zs.any Fa):=by show _=_;unfold yH;rw[decide_eq_true h20,Zq];rfl
  clear h20;generalize zs.any Fa=z at *;go_in;go_wp2_with fail;refine HC.o.mono ?_;rintro e wq ⟨rfl,hwq⟩;rw[hwq];go_wp2_with fail;go_ret;exact⟨aI HV.o.symm,rfl⟩
 .have h1:(20:Int)<(zs.length:Int):=oo;have HV:Hid (yH zs=false):=by show _=_;unfold yH;rw[decide_eq_false h20];rfl
  clear h20 HC;go_in;go_wp2_with fail;go_ret;exact⟨aI HV.o.symm,rfl⟩
end
theorem TP:∃i,prog.info? 59=some i/\i.zero=some (.slice none 0 0)/\i.size=1/\i.bytes=24:=info_parts (by kernel_rfl)
theorem Wu(B:Nat)(l:List Nd)(v:Value)(w:World)(h:Sl (fun b=>b<B) w v l)(hB:B<=w.heap.size):
  Calls prog 77 #[v] w fun e w'=>∃v',e=.returned v'/\SSl w' v' (parted l)/\Below w.heap.size w w':=by
 have hl:=h.len;have HS:Hid (Sl (fun b=>b<B) w v l):=h;obtain⟨a,cap,rfl⟩:=h.form;clear h;obtain⟨iT,hiT⟩:=pV;have HI:Hid (prog.info? 134=some iT/\iT.zero=some (.agg #[.int .i64 0,.string ⟨#[]⟩,.string ⟨#[]⟩,.slice none 0 0])/\iT.size=4/\iT.bytes=64):=hiT;clear hiT;obtain⟨iS,uh⟩:=TP;have HJ:Hid (prog.info? 59=some iS/\iS.zero=some (.slice none 0 0)/\iS.size=1/\iS.bytes=24):=uh;clear uh;have P0:Hid (nX B w.heap.size (w.alloc (.cells #[.slice none 0 0] 59)) (.slice (some ⟨w.heap.size,0,none⟩) 1 1) (.slice none 0 0) [] [] [] []):=⟨⟨rfl,.inr ⟨w.heap.size,1,_,rfl,Nat.le_refl _,heap_alloc_new w _,by simp,by unfold maxLen;omega,by simp,by simp⟩⟩,World.ownsRow_nil _ _ _ _,rfl,rfl⟩
 have B0:Hid (Below w.heap.size w (w.alloc (.cells #[.slice none 0 0] 59))):=(Below.refl _ _).alloc nl _;go_in;go_wp2_with fail;go_loopg[3,4] l.length (fun gg v3 v4 wr=>∃(j go co:Nat) (cv:Value) (fin:List (List Nd)) (cur:List Nd) (fvs cs:List Value),j+gg=l.length/\v4=.int .i64 (j:Int)/\v3=.slice (some ⟨go,0,none⟩) (fin.length+1) co/\fin.length<=j/\cur.length<=j/\Aside (nX B w.heap.size wr (.slice (some ⟨go,0,none⟩) (fin.length+1) co) cv fin cur fvs cs/\Below w.heap.size w wr/\parted l=kW fin cur (l.drop j)));case atStart=>exact⟨0,w.heap.size,1,_,[],[],[],[],oo,rfl,rfl,by simp,by simp,P0.o,B0.o,rfl⟩
 case round=>
  obtain⟨j,go,co,cv,fin,cur,fvs,cs,hj,rfl,rfl,hfj,hcj,hA⟩:=hrel;have HP:Hid (nX B w.heap.size wr (.slice (some ⟨go,0,none⟩) (fin.length+1) co) cv fin cur fvs cs):=hA.o.1;have HB:Hid (Below w.heap.size w wr):=hA.o.2.1;have HE:Hid (parted l=kW fin cur (l.drop j)):=hA.o.2.2;clear hA P0 B0;have hsz:=HB.o.size;by_cases hlt:j<l.length
  .have h1:(j:Int)<(l.length:Int):=oo;have qQ:=HS.o.below HB.o hB;obtain⟨g,o,rfl,hL,hcap⟩:=qQ.here (by rintro rfl;simp at hlt);obtain⟨kv,hN⟩:=hL.node (i:=j) hlt;obtain⟨n,hn⟩:∃n,n=l[j]:=⟨_,rfl⟩;have Hdr:Hid (l.drop j=n::l.drop (j+1)):=by show _=_;rw[hn];exact List.drop_eq_getElem_cons hlt
   rw[<-hn]at hN;have HN:Hid (lZ (fun b=>b<B) wr n g (o+j*4) kv):=hN;have c0:=hN.c0;have c1:=hN.c1;have c2:=hN.c2;have c3:=hN.c3;clear hN hL hn qQ;go_wp2_with fail;refine pmb (eU n.t kv _ _) fun w1 hb1=>?_;have P1:Hid (nX B w.heap.size w1 (.slice (some ⟨go,0,none⟩) (fin.length+1) co) cv fin cur fvs cs):=HP.o.below oo hb1;have B1:Hid (Below w.heap.size w w1):=HB.o.trans (hb1.mono hsz);have hgB:=HN.o.s;have hsz1:=B1.o.size;have N1:Hid (lZ (fun b=>b<B) w1 n g (o+j*4) kv):=HN.o.below (hb1.mono oo);clear hb1 HN HP HB c0 c1 c2 c3;cases hs:ay n.t (b1 44)
   .have HV:Hid (parted l=kW fin (cur++[n]) (l.drop (j+1))):=by
     show _=_;rw[HE.o,Hdr.o];simp only[kW,dY,hs];simp
    have hs':ay n.t { data:=#[44] } = false:=hs;go_wp2_with fail;go_region
    .have P2:Hid (nX B w.heap.size (w1.alloc (.cells #[.bool false] 4)).drew (.slice (some ⟨go,0,none⟩) (fin.length+1) co) cv fin cur fvs cs):=P1.o.below oo (((Below.refl _ _).alloc nl _).drew);have B2:Hid (Below w.heap.size w (w1.alloc (.cells #[.bool false] 4)).drew):=(B1.o.alloc oo _).drew;have N2:Hid (lZ (fun b=>b<B) (w1.alloc (.cells #[.bool false] 4)).drew n g (o+j*4) kv):=N1.o.below ((((Below.refl _ _).alloc nl _).drew).mono oo);have hsz2:w.heap.size<=(w1.alloc (.cells #[.bool false] 4)).drew.heap.size:=B2.o.size;generalize(w1.alloc (.cells #[.bool false] 4)).drew=w2 at *;clear P1 B1 N1;have d0:=N2.o.c0;have d1:=N2.o.c1;have d2:=N2.o.c2;have d3:=N2.o.c3;have hgo:w.heap.size<=go/\go<w2.heap.size:=P2.o.row.lt go rfl;have hcv:w2.cell? ⟨go,fin.length,none⟩=some cv:=by
      have:=P2.o.row.cells (g:=go) rfl fin.length cv (by rw[<-P2.o.fin.len];simp);rwa[Addr.add_lit,Nat.zero_add]at this
     have hfz:w2.frozen? ⟨go,fin.length,none⟩=false:=P2.o.row.frozenAt fin.length;have hne:¬g=go:=oo;have aa3:g<w2.heap.size:=oo;obtain⟨ka,kc,aby⟩:∃ka kc,cv=.slice ka cur.length kc:=by
      rcases P2.o.own.2 with⟨e,hn⟩|⟨g',cap',_,e,_⟩
      .exact⟨none,0,by rw[e,hn]⟩
      .exact⟨_,_,e⟩
     subst aby;have hap:some go≠Value.ownBlock (.slice ka cur.length kc):=P2.o.apart rfl;obtain⟨xa,xc,rfl⟩:=N2.o.k.form;have q1:(0:Int)<=(fin.length:Int):=oo;have q2:(fin.length:Int)<(fin.length:Int)+1:=oo;have q3:IntKind.i64.wrap (fin.length:Int)=(fin.length:Int):=by rw[IntKind.wrap_i64];omega
     have q4:IntKind.i64.wrap ((fin.length:Int)+1-1)=(fin.length:Int):=by rw[IntKind.wrap_i64];omega
     go_wp2_with fail
     go_region_law (refine fZ rfl (.tmp 52) (.tmp 57) 59 rfl w.heap.size 134 iT (.agg #[.int .i64 0,.string ⟨#[]⟩,.string ⟨#[]⟩,.slice none 0 0]) 4 64 Tryz.underlying59 HI.o.1 HI.o.2.1 HI.o.2.2.1 HI.o.2.2.2 rfl oo (.slice ka cur.length kc) cur.length cs (by simp[Act.eval]) (P2.o.own.drew.alloc _) ⟨w2.heap.size,0,none⟩ 1 1 [.int .i64 n.t.kind,.string n.t.word,.string n.t.unit,.slice xa n.kids.length xc] (by simp[Act.eval]) rfl (GR _ _ _ _ _ _) (uM _ _ _ _) (by unfold maxLen;omega) oo (by simp;omega) ?_;intro v4 w4 hown4 bG fK;obtain⟨va,vc,e4⟩:=iL hown4;subst e4;have Ig:w4.heap[go]?=w2.heap[go]?:=(bG.block go (by simp;omega) hap).trans (Below.heap_alloc _ _ _ hgo.2);have Zr:w4.cell? ⟨go,fin.length,none⟩=some (.slice ka cur.length kc):=(World.cell?_of_block (w:=w2) (a:=⟨go,fin.length,none⟩) Ig).trans hcv;have Zt:w4.frozen? ⟨go,fin.length,none⟩=false:=(World.frozen?_of_block (w:=w2) (a:=⟨go,fin.length,none⟩) Ig).trans hfz)
     all_goals
      have P5:Hid (nX B w.heap.size (w4.setCell ⟨go,fin.length,none⟩ (.slice va (cur.length+1) vc)) (.slice (some ⟨go,0,none⟩) (fin.length+1) co) (.slice va (cur.length+1) vc) fin (cur++[n]) fvs (cs++[.int .i64 n.t.kind,.string n.t.word,.string n.t.unit,.slice xa n.kids.length xc])):=by refine P2.o.grow hB oo rfl n _ ⟨N2.o.k,N2.o.ok⟩ ?_ ?_ hown4 bG fK;(simp);exact fun g hg=>Below.heap_alloc _ _ _ hg
      have B5:Hid (Below w.heap.size w (w4.setCell ⟨go,fin.length,none⟩ (.slice va (cur.length+1) vc))):=(((B2.o.alloc hsz2 _).drew).grown bG (by simp;omega) (fun rr hr=>(P2.o.own.lt rr hr).1)).setCell hgo.1 _
      clear hown4 bG fK Ig Zr Zt;go_wp2_with fail;go_roundg(gk-1);case measure=>omega
      case rel=>exact⟨j+1,go,co,_,fin,cur++[n],fvs,_,oo,by congr 1,rfl,oo,by simp;omega,P5.o,B5.o,HV.o⟩
    .have P2:Hid (nX B w.heap.size (w1.alloc (.cells #[.bool true] 4)).drew (.slice (some ⟨go,0,none⟩) (fin.length+1) co) cv fin cur fvs cs):=P1.o.below oo (((Below.refl _ _).alloc nl _).drew);have B2:Hid (Below w.heap.size w (w1.alloc (.cells #[.bool true] 4)).drew):=(B1.o.alloc oo _).drew;have N2:Hid (lZ (fun b=>b<B) (w1.alloc (.cells #[.bool true] 4)).drew n g (o+j*4) kv):=N1.o.below ((((Below.refl _ _).alloc nl _).drew).mono oo);have hsz2:w.heap.size<=(w1.alloc (.cells #[.bool true] 4)).drew.heap.size:=B2.o.size;generalize(w1.alloc (.cells #[.bool true] 4)).drew=w2 at *;clear P1 B1 N1;have d0:=N2.o.c0;have d1:=N2.o.c1;have d2:=N2.o.c2;have d3:=N2.o.c3;have hgo:w.heap.size<=go/\go<w2.heap.size:=P2.o.row.lt go rfl;have hcv:w2.cell? ⟨go,fin.length,none⟩=some cv:=by
      have:=P2.o.row.cells (g:=go) rfl fin.length cv (by rw[<-P2.o.fin.len];simp);rwa[Addr.add_lit,Nat.zero_add]at this
     have hfz:w2.frozen? ⟨go,fin.length,none⟩=false:=P2.o.row.frozenAt fin.length;have hne:¬g=go:=oo;have aa3:g<w2.heap.size:=oo;obtain⟨ka,kc,aby⟩:∃ka kc,cv=.slice ka cur.length kc:=by
      rcases P2.o.own.2 with⟨e,hn⟩|⟨g',cap',_,e,_⟩
      .exact⟨none,0,by rw[e,hn]⟩
      .exact⟨_,_,e⟩
     subst aby;have hap:some go≠Value.ownBlock (.slice ka cur.length kc):=P2.o.apart rfl;have aej:some g≠Value.ownBlock (.slice ka cur.length kc):=fun e=>by have:=(P2.o.own.lt g e.symm).1;omega
     obtain⟨xa,xc,rfl⟩:=N2.o.k.form;have q1:(0:Int)<=(fin.length:Int):=oo;have q2:(fin.length:Int)<(fin.length:Int)+1:=oo;have q3:IntKind.i64.wrap (fin.length:Int)=(fin.length:Int):=by rw[IntKind.wrap_i64];omega
     have q4:IntKind.i64.wrap ((fin.length:Int)+1-1)=(fin.length:Int):=by rw[IntKind.wrap_i64];omega
     go_wp2_with fail
     go_region_law (refine fZ rfl (.tmp 33) (.tmp 39) 59 rfl w.heap.size 134 iT (.agg #[.int .i64 0,.string ⟨#[]⟩,.string ⟨#[]⟩,.slice none 0 0]) 4 64 Tryz.underlying59 HI.o.1 HI.o.2.1 HI.o.2.2.1 HI.o.2.2.2 rfl oo (.slice ka cur.length kc) cur.length cs (by simp[Act.eval,Act.put]) (P2.o.own.drew.alloc _) ⟨w2.heap.size,0,none⟩ 1 1 [.int .i64 0,.string ⟨#[]⟩,.string ⟨#[]⟩,.slice none 0 0] (by simp[Act.eval,Act.put]) rfl (GR _ _ _ _ _ _) (by simp[Value.oneCell']) (by unfold maxLen;omega) oo (by simp;omega) ?_;intro v4 w4 hown4 bG fK;obtain⟨gv,vc,e4⟩:=vW hown4;subst e4;have Ig:w4.heap[go]?=w2.heap[go]?:=(bG.block go (by simp;omega) hap).trans (Below.heap_alloc _ _ _ hgo.2);have Zr:w4.cell? ⟨go,fin.length,none⟩=some (.slice ka cur.length kc):=(World.cell?_of_block (w:=w2) (a:=⟨go,fin.length,none⟩) Ig).trans hcv;have Zt:w4.frozen? ⟨go,fin.length,none⟩=false:=(World.frozen?_of_block (w:=w2) (a:=⟨go,fin.length,none⟩) Ig).trans hfz;have hg4:w4.heap[g]?=w2.heap[g]?:=(bG.block g (by simp;omega) aej).trans (Below.heap_alloc _ _ _ oo);have d04:w4.cell? ⟨g,o+j*4,none⟩=_:=(World.cell?_of_block (w:=w2) (a:=⟨g,o+j*4,none⟩) hg4).trans d0;have d14:w4.cell? ⟨g,o+j*4+1,none⟩=_:=(World.cell?_of_block (w:=w2) (a:=⟨g,o+j*4+1,none⟩) hg4).trans d1;have d24:w4.cell? ⟨g,o+j*4+2,none⟩=_:=(World.cell?_of_block (w:=w2) (a:=⟨g,o+j*4+2,none⟩) hg4).trans d2;have d34:w4.cell? ⟨g,o+j*4+3,none⟩=_:=(World.cell?_of_block (w:=w2) (a:=⟨g,o+j*4+3,none⟩) hg4).trans d3)
     all_goals
      have TQ:¬gv=go:=by
       rintro rfl;rcases fK with e2|e2
       .exact hap e2
       .simp[Value.ownBlock]at e2;omega
      obtain⟨e0,e1,e2,e3⟩:=Ee hown4 P2.o.own.1;have k0:=hown4.frozenAt (cur.length*4);have k1:=hown4.frozenAt (cur.length*4+1);have k2:=hown4.frozenAt (cur.length*4+2);have k3:=hown4.frozenAt (cur.length*4+3);have r2:(cur.length:Int)<(cur.length:Int)+1:=oo;have P5:Hid (nX B w.heap.size (((((w4.setCell ⟨go,fin.length,none⟩ (.slice (some ⟨gv,0,none⟩) (cur.length+1) vc)).setCell ⟨gv,cur.length*4,none⟩ (.int .i64 n.t.kind)).setCell ⟨gv,cur.length*4+1,none⟩ (.string n.t.word)).setCell ⟨gv,cur.length*4+2,none⟩ (.string n.t.unit)).setCell ⟨gv,cur.length*4+3,none⟩ (.slice xa n.kids.length xc)) (.slice (some ⟨go,0,none⟩) (fin.length+1) co) (.slice (some ⟨gv,0,none⟩) (cur.length+1) vc) fin (cur++[n]) fvs (cs++[.int .i64 n.t.kind,.string n.t.word,.string n.t.unit,.slice xa n.kids.length xc])):=by refine P2.o.acD hB oo rfl n _ ⟨N2.o.k,N2.o.ok⟩ ?_ ?_ hown4 bG fK;(simp);exact fun g hg=>Below.heap_alloc _ _ _ hg
      have Ag:w.heap.size<=gv:=(hown4.lt gv rfl).1;have B5:Hid (Below w.heap.size w (((((w4.setCell ⟨go,fin.length,none⟩ (.slice (some ⟨gv,0,none⟩) (cur.length+1) vc)).setCell ⟨gv,cur.length*4,none⟩ (.int .i64 n.t.kind)).setCell ⟨gv,cur.length*4+1,none⟩ (.string n.t.word)).setCell ⟨gv,cur.length*4+2,none⟩ (.string n.t.unit)).setCell ⟨gv,cur.length*4+3,none⟩ (.slice xa n.kids.length xc))):=((((((((B2.o.alloc hsz2 _).drew).grown bG (by simp;omega) (fun rr hr=>(P2.o.own.lt rr hr).1)).setCell hgo.1 _).setCell Ag _).setCell Ag _).setCell Ag _).setCell Ag _)
      clear hown4 bG fK Ig hg4 d04 d14 d24 d34 d0 d1 d2 d3 Zr Zt hcv hfz;go_wp2_with fail;go_roundg(gk-1);case measure=>omega
      case rel=>exact⟨j+1,go,co,_,fin,cur++[n],fvs,_,oo,by congr 1,rfl,oo,by simp;omega,P5.o,B5.o,HV.o⟩
   .have HV:Hid (parted l=kW (fin++[cur]) [] (l.drop (j+1))):=by
     show _=_;rw[HE.o,Hdr.o];simp only[kW,dY,hs];simp
    have hs':ay n.t { data:=#[44] } = true:=hs;go_wp2_with(at_builtin;go_must(refine wpList_append_own_at _ rfl _ _ 145 rfl w.heap.size 59 iS (.slice none 0 0) 1 24 Tryz.underlying145 HJ.o.1 HJ.o.2.1 HJ.o.2.2.1 HJ.o.2.2.2 rfl oo (.slice (some ⟨go,0,none⟩) (fin.length+1) co) (fin.length+1) (fvs++[cv]) rfl (P1.o.row.alloc _) ⟨w1.heap.size,0,none⟩ 1 1 [.slice none 0 0] rfl rfl (cell_one_new _ _ _) (by simp[Value.oneCell']) (by unfold maxLen;omega) oo (by simp;omega) ?_));intro v4 w4 hown4 bG _ fK;have P4:Hid (nX B w.heap.size w4 v4 (.slice none 0 0) (fin++[cur]) [] (fvs++[cv]) []):=P1.o.cut hB oo oo hown4 (by have:=bG.size;simp at this;omega) (fun g hg h1=>by rw[bG.block g (by simp;omega) h1,Below.heap_alloc _ _ _ hg]) (by rcases fK with e|e;exact .inl e;exact .inr ⟨_,e,by simp⟩)
    have B4:Hid (Below w.heap.size w w4):=(B1.o.alloc oo _).grown bG (by simp;omega) (fun rr hr=>(P1.o.row.lt rr hr).1);clear hown4 bG fK;obtain⟨go',co',e4⟩:∃go' co',v4=.slice (some ⟨go',0,none⟩) ((fin++[cur]).length+1) co':=by
     rcases P4.o.row.2 with⟨_,hn⟩|⟨g',cap',_,e,_⟩
     .omega
     .exact⟨g',cap',e⟩
    subst e4;go_wp2_with fail;go_roundg(gk-1);case measure=>omega
    case rel=>exact⟨j+1,go',co',_,fin++[cur],[],fvs++[cv],[],oo,by congr 1,rfl,by simp;omega,by simp,P4.o,B4.o,HV.o⟩
  .have h1:(l.length:Int)<=(j:Int):=oo;have HV:Hid (parted l=fin++[cur]):=by
    show _=_;rw[HE.o,List.drop_of_length_le oo];rfl
   go_wp2_with fail;go_ret;exact⟨_,rfl,by rw[HV.o];exact HP.o.done oo oo,HB.o⟩
end Go.Proofs.YtlliliddljkbfaaGreatDoor
