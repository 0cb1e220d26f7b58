import Derived.Test.YtlliliddljkbfaaGreatC3
import Derived.Deep.RegionHeld3
set_option maxHeartbeats 64000000
set_option maxRecDepth 100000
namespace Go.Proofs.YtlliliddljkbfaaGreat
open Go.Proofs.Tryz (prog)
open Go.RowKit Sp
def Fp(s:BY)(i:Nat):Bool:=dZ s i (bt s i)&&!(i==0&&(bt s i==101||bt s i==69))
theorem af2(s:BY)(i b:Nat)(w:WD)(hi:i<s.size)(hs:s.size<=4000000)(hb:bU w b (.string s) 9):
  Calls prog 279 #[.int .i64 (i:Int),.pointer (some ⟨b,0,none⟩)] w fun e w'=>e=.returned (.bool (Fp s i))/\Below w.heap.size w w':=by
 have c0:=hb.c;have hix:=gQ s i hi;rw[Ie hi]at hix;have h0:(i:Int)<(s.size:Int):=oo;have HU:Hid (Fp s i=(dZ s i (bt s i)&&!(i==0&&(((bt s i).toNat:Int)==101||((bt s i).toNat:Int)==69)))):=by show _=_;unfold Fp;rw[show(bt s i==101)=(((bt s i).toNat:Int)==101) from tZ _ 101 oo,show(bt s i==69)=(((bt s i).toNat:Int)==69) from tZ _ 69 oo]
 obtain⟨z,Hz⟩:=Nm (dZ s i (bt s i));rw[Hz.o]at HU;have hpn:=Fj s i w hi hs;rw[Hz.o]at hpn;have HPN:=hid hpn;clear hpn hb;obtain⟨c,Hc⟩:=Nm (((bt s i).toNat:Int));rw[Hc.o]at HU hix;cases z
 .have HV:=hid HU.o;go_in;go_wp2_with fail;refine HPN.o.mono ?_;rintro e wq ⟨rfl,hwq⟩;rw[hwq];go_wp2_with fail;go_ret;exact⟨aC HV.o.symm,Ax⟩
 .by_cases h1:i=0
  .subst h1;have HV:Hid (Fp s 0=(((s[0]'hi).toNat:Int) != 101&&((s[0]'hi).toNat:Int) != 69)):=by
    show _=_;rw[HU.o,<-Hc.o,MJ hi];cases h2:(((s[0]'hi).toNat:Int)==101)<;>cases h3:(((s[0]'hi).toNat:Int)==69)<;>simp[bne,h2,h3]
   clear HU Hc hix;go_in;go_wp2_with fail;refine HPN.o.mono ?_;rintro e wq ⟨rfl,hwq⟩;rw[hwq];go_wp2_with fail;all_goals
    go_ret;first|exact⟨aC HV.o.symm,Ax⟩|exact⟨aC (by rw[HV.o];simp[*]),Ax⟩
  .have h1':(0:Int)<(i:Int):=oo;have h1d:decide ((0:Int)<(i:Int))=true:=decide_eq_true h1';have h1b:(i==0)=false:=by simpa using h1
   have HV:Hid (Fp s i=true):=by show _=_;rw[HU.o,h1b];rfl
   clear h1 h1b HU;go_in;go_wp2_with fail;refine HPN.o.mono ?_;rintro e wq ⟨rfl,hwq⟩;rw[hwq];go_wp2_with fail;go_ret;exact⟨aC HV.o.symm,Ax⟩
theorem aiV(s:BY)(w:WD)(hs:s.size<=4000000):Calls prog 230 #[.string s] w fun e w'=>e=.returned (.string (Fe s))/\Below w.heap.size w w':=by
 have hmf:=nI;have V1:Hid (bU (w.alloc (.cells #[.string s] 9)) w.heap.size (.string s) 9):=bU.new _ _ _;have B1:Hid (Below w.heap.size w (w.alloc (.cells #[.string s] 9))):=Ax.alloc nl _;have c0:=V1.o.c;have HV:Hid (Fe s=aG (zO (Fp s) s s.size)):=Cb _ s;go_in;go_wp2_with fail;generalize w.alloc (.cells #[.string s] 9)=w2 at *;refine(vG s _ _ (Fp s) w2 hs (fun _ _=>rfl) ?_).mono ?_
 .intro i hi w' hb';exact af2 s i _ w' hi hs (V1.o.below hb' V1.o.lt)
 .rintro e wq ⟨rfl,hwq⟩;have B3:=hid (AC B1.o hwq);clear hwq;go_wp2_with fail;go_ret;exact⟨by rw[HV.o];rfl,B3.o⟩
theorem af4(s:BY)(w:WD)(hs:s.size<=4000000):Calls prog 231 #[.string s] w fun e w'=>e=.returned (.string (Hw s))/\Below w.heap.size w w':=by
 have hmf:=nI;have V1:Hid (bU (w.alloc (.cells #[.string s] 9)) w.heap.size (.string s) 9):=bU.new _ _ _;have B1:Hid (Below w.heap.size w (w.alloc (.cells #[.string s] 9))):=Ax.alloc nl _;have c0:=V1.o.c;obtain⟨m,Hm⟩:=Nm (aG (zO (fun i=>xH (bt s i)) s s.size));have HV:Hid (Hw s=aG [⟨#[117,114,108,40]⟩,m,⟨#[41]⟩]):=by show _=_;unfold Hw;rw[Cb,Hm.o];simp[aG,akI,b1]
 have hms:m.size<=16000000:=by rw[<-Hm.o,oQ];have:=Ej (fun i=>xH (bt s i)) s s.size;omega
 go_in;go_wp2_with fail;generalize w.alloc (.cells #[.string s] 9)=w2 at *;refine(vG s _ _ (fun i=>xH (bt s i)) w2 hs (fun _ _=>rfl) ?_).mono ?_
 .intro i hi w' hb';exact af0 s i _ w' hi (V1.o.below hb' V1.o.lt)
 .rw[Hm.o];rintro e wq ⟨rfl,hwq⟩;have B3:=hid (AC B1.o hwq);have hs3:=B3.o.size;clear hwq c0;go_wp2_with fail;refine pmb (dQ [⟨#[117,114,108,40]⟩,m,⟨#[41]⟩] wq.heap.size _ _ (row3 wq ⟨#[117,114,108,40]⟩ m ⟨#[41]⟩) Ab (by show 4+(m.size+(1+0))<=_;omega)) fun w5 hb5=>?_;have B5:Hid (Below w.heap.size w w5):=(B3.o.alloc hs3 _).trans (hb5.mono An);clear hb5;go_wp2_with fail;go_ret;exact⟨by rw[HV.o];rfl,B5.o⟩
theorem uf(ok:Nat->UInt8->Bool):∀(l:List UInt8) (i:Nat),(BP ok i l).size<=4*l.length
 |[],i=>by show 0<=_;omega
 |c::r,i=>by
  unfold BP;rw[ByteArray.size_append];have:=uf ok r (i+1);have h2:(if ok i c=true then b1 c else KU c).size<=4:=by
   split
   .show 1<=4;omega
   .show 4<=4;omega
  simp only[List.length_cons];omega
theorem qJ(s:BY):s.data.toList.length=s.size:=Array.length_toList
theorem fQ(s:BY):(dP s).size<=4*s.size:=by have:=uf (dZ s) s.data.toList 0;rw[qJ]at this;exact this
theorem Ih(s:BY):(Fe s).size<=4*s.size:=by have:=uf (fun i c=>dZ s i c&&!(i==0&&(c==101||c==69))) s.data.toList 0;rw[qJ]at this;exact this
theorem Au(s:BY):(xG s).size<=4*s.size+2:=by have:=uf (fun _ c=>jO c) s.data.toList 0;rw[qJ]at this;unfold xG;rw[ByteArray.size_append,ByteArray.size_append];show 1+(_+1)<=_;omega
theorem Vy(s:BY):(Hw s).size<=4*s.size+5:=by have:=uf (fun _ c=>xH c) s.data.toList 0;rw[qJ]at this;unfold Hw;rw[ByteArray.size_append,ByteArray.size_append];show 4+(_+1)<=_;omega
mutual
def Cc:Nd->Nat
 |.mk t k=>4*t.word.size+4*t.unit.size+16+dL k
def dL:List Nd->Nat
 |[]=>0
 |n::r=>Cc n+dL r
end
theorem Ce(t:Tok):(closing t).size<=1:=by
 unfold closing;repeat' split
 all_goals decide
theorem MK(t:Tok)(inn:BY):(Qy t inn).size<=4*t.word.size+4*t.unit.size+12+inn.size:=by
 have h1:=fQ t.word;have h2:=Ih t.unit;have h3:=Au t.word;have h4:=Vy t.word;have h5:=Ce t;have e:∀(c:UInt8),(b1 c).size=1:=fun _=>rfl;unfold Qy;by_cases k1:t.kind=1
 .rw[if_pos k1,e];omega
 rw[if_neg k1];by_cases k2:t.kind=2
 .rw[if_pos k2];omega
 rw[if_neg k2];by_cases k3:t.kind=3
 .rw[if_pos k3];show 2<=_;omega
 rw[if_neg k3];by_cases k4:t.kind=4
 .rw[if_pos k4,ByteArray.size_append];show 1+_<=_;omega
 rw[if_neg k4];by_cases k6:t.kind=6
 .rw[if_pos k6,ByteArray.size_append];show _+1<=_;omega
 rw[if_neg k6];by_cases k7:t.kind=7
 .rw[if_pos k7,ByteArray.size_append];omega
 rw[if_neg k7];by_cases k8:t.kind=8
 .rw[if_pos k8];show 4<=_;omega
 rw[if_neg k8];by_cases k9:t.kind=9
 .rw[if_pos k9];show 3<=_;omega
 rw[if_neg k9];by_cases k10:t.kind=10
 .rw[if_pos k10,ByteArray.size_append];show 1+_<=_;omega
 rw[if_neg k10];by_cases k11:t.kind=11
 .rw[if_pos k11,ByteArray.size_append,ByteArray.size_append,ByteArray.size_append];show _+(1+(_+1))<=_;omega
 rw[if_neg k11];by_cases k12:t.kind=12
 .rw[if_pos k12];omega
 rw[if_neg k12];by_cases k13:t.kind=13
 .rw[if_pos k13];show 6<=_;omega
 rw[if_neg k13];by_cases k14:t.kind=14
 .rw[if_pos k14];omega
 rw[if_neg k14];by_cases k15:t.kind=15
 .rw[if_pos k15,ByteArray.size_append,ByteArray.size_append];omega
 rw[if_neg k15];omega
mutual
theorem Vz:∀(n:Nd),(iM n).size+4<=Cc n
 |.mk t k=>by unfold iM Cc;have:=MK t (l9 none k);have:=vH none k;omega
theorem vH:∀(a:Option Tok) (l:List Nd),(l9 a l).size<=dL l
 |a,[]=>by unfold l9;show 0<=_;omega
 |a,n::r=>by
  unfold l9 dL;have h1:=Vz n;have h2:=vH (some n.t) r;have h3:(Aj a n.t).size<=4:=by
   unfold Aj;split
   .show 0<=4;omega
   .split
    .show 4<=4;omega
    .show 0<=4;omega
  rw[ByteArray.size_append];split
  .have:aA.size=0:=rfl;omega
  .rw[ByteArray.size_append];omega
end
section
attribute [local go_sem] bI bJ aX aY
theorem bf(w:WD)(o:Obj):Below w.heap.size w (w.alloc o):=Ax.alloc nl _
theorem Ci(t:Tok)(ka:Option Addr)(kl kc:Nat)(w:WD):
  Calls prog 163 #[fB t (.slice ka kl kc)] w fun e w'=>e=.returned (.bool (decide (t.kind=1)))/\Below w.heap.size w w':=by
 unfold fB;have A2:Hid (VB (w.alloc (.cells #[.int .i64 t.kind,.string t.word,.string t.unit,.slice ka kl kc] 199)) w.heap.size (.int .i64 t.kind) (.string t.word) (.string t.unit) (.slice ka kl kc)):=VB.new _ _ _ _ _;have B2:Hid (Below w.heap.size w (w.alloc (.cells #[.int .i64 t.kind,.string t.word,.string t.unit,.slice ka kl kc] 199))):=bf _ _;obtain⟨a0,a1,a2,a3⟩:=A2.o.cs;have HV:Hid ((t.kind==1)=decide (t.kind=1)):=by show _=_;rw[Bool.eq_iff_iff];simp
 go_in;go_wp2_with fail;go_ret;exact⟨aC HV.o,B2.o⟩
def markT(t:Tok):Bool:=decide (t.kind=15)&&Yt t.word
theorem QF(t:Tok)(ka:Option Addr)(kl kc:Nat)(w:WD):
  Calls prog 228 #[fB t (.slice ka kl kc)] w fun e w'=>e=.returned (.bool (markT t))/\Below w.heap.size w w':=by
 unfold fB;have A2:Hid (VB (w.alloc (.cells #[.int .i64 t.kind,.string t.word,.string t.unit,.slice ka kl kc] 199)) w.heap.size (.int .i64 t.kind) (.string t.word) (.string t.unit) (.slice ka kl kc)):=VB.new _ _ _ _ _;have B2:Hid (Below w.heap.size w (w.alloc (.cells #[.int .i64 t.kind,.string t.word,.string t.unit,.slice ka kl kc] 199))):=bf _ _;obtain⟨a0,a1,a2,a3⟩:=A2.o.cs;have HM:Hid (markT t=(decide (t.kind=15)&&(decide (t.word=b1 44)||decide (t.word=b1 58)||decide (t.word=b1 59)||decide (t.word=b1 41)||decide (t.word=b1 93)||decide (t.word=b1 125)))):=rfl;have e1:(t.word.toList==[44])=decide (t.word=b1 44):=ay _ _;have e2:(t.word.toList==[58])=decide (t.word=b1 58):=ay _ _;have e3:(t.word.toList==[59])=decide (t.word=b1 59):=ay _ _;have e4:(t.word.toList==[41])=decide (t.word=b1 41):=ay _ _
 have e5:(t.word.toList==[93])=decide (t.word=b1 93):=ay _ _;have e6:(t.word.toList==[125])=decide (t.word=b1 125):=ay _ _;cases hk:(t.kind==15)
 .have hk':¬t.kind=15:=by simpa using hk
  have HV:Hid (markT t=false):=by show _=_;rw[HM.o,decide_eq_false hk'];rfl
  clear hk';go_in;go_wp2_with fail;go_ret;exact⟨aC HV.o.symm,B2.o⟩
 .have hk':t.kind=15:=by simpa using hk
  have HV:Hid (markT t=(decide (t.word=b1 44)||decide (t.word=b1 58)||decide (t.word=b1 59)||decide (t.word=b1 41)||decide (t.word=b1 93)||decide (t.word=b1 125))):=by show _=_;rw[HM.o,decide_eq_true hk'];rfl
  clear hk' HM;generalize decide (t.word=b1 44)=x1 at *;generalize decide (t.word=b1 58)=x2 at *;generalize decide (t.word=b1 59)=x3 at *;generalize decide (t.word=b1 41)=x4 at *;generalize decide (t.word=b1 93)=x5 at *;generalize decide (t.word=b1 125)=x6 at *;cases x1
  .cases x2
   .cases x3
    .cases x4
     .cases x5
      .cases x6
       .go_in;go_wp2_with fail;go_ret;exact⟨aC HV.o.symm,B2.o⟩
       .go_in;go_wp2_with fail;go_ret;exact⟨aC HV.o.symm,B2.o⟩
      .go_in;go_wp2_with fail;go_ret;exact⟨aC HV.o.symm,B2.o⟩
     .go_in;go_wp2_with fail;go_ret;exact⟨aC HV.o.symm,B2.o⟩
    .go_in;go_wp2_with fail;go_ret;exact⟨aC HV.o.symm,B2.o⟩
   .go_in;go_wp2_with fail;go_ret;exact⟨aC HV.o.symm,B2.o⟩
  .go_in;go_wp2_with fail;go_ret;exact⟨aC HV.o.symm,B2.o⟩
def Cj(t:Tok):Bool:=decide (t.kind=1)||!decide (closing t=aA)||markT t
def zQ(t:Tok):Bool:=decide (t.kind=1)||au t (b1 91)||au t (b1 123)||markT t
theorem parts_eq(a b:Tok):parts a b=(!Cj a&&!zQ b):=by unfold parts Cj zQ;rw[show oH a=(decide (a.kind=1)||markT a) from rfl,show oH b=(decide (b.kind=1)||markT b) from rfl];cases decide (a.kind=1)<;>cases decide (b.kind=1)<;>cases markT a<;>cases markT b<;>cases decide (closing a=aA)<;>cases au b (b1 91)<;>cases au b (b1 123)<;>rfl
theorem Fq(t:Tok)(ka:Option Addr)(kl kc:Nat)(w:WD):
  Calls prog 164 #[fB t (.slice ka kl kc)] w fun e w'=>e=.returned (.bool (Cj t))/\Below w.heap.size w w':=by
 have hu:fB t (.slice ka kl kc)=.agg #[.int .i64 t.kind,.string t.word,.string t.unit,.slice ka kl kc]:=rfl;rw[hu];have A2:Hid (VB (w.alloc (.cells #[.int .i64 t.kind,.string t.word,.string t.unit,.slice ka kl kc] 199)) w.heap.size (.int .i64 t.kind) (.string t.word) (.string t.unit) (.slice ka kl kc)):=VB.new _ _ _ _ _;have B2:Hid (Below w.heap.size w (w.alloc (.cells #[.int .i64 t.kind,.string t.word,.string t.unit,.slice ka kl kc] 199))):=bf _ _;obtain⟨a0,a1,a2,a3⟩:=A2.o.cs;obtain⟨x1,H1⟩:=Nm (decide (t.kind=1));obtain⟨x2,H2⟩:=Nm (decide (closing t=aA));have HE:Hid (Cj t=(x1||!x2||markT t)):=by show _=_;unfold Cj;rw[H1.o,H2.o]
 go_in;go_wp2_with fail;generalize w.alloc (.cells #[.int .i64 t.kind,.string t.word,.string t.unit,.slice ka kl kc] 199)=w2 at *;refine(Ci t ka kl kc _).mono ?_;rw[H1.o];rintro e w3 ⟨rfl,hb3⟩;have B3:=hid (AC B2.o hb3);have A3:=hid (A2.o.below hb3);clear hb3 a0 a1 a2 a3;obtain⟨a0,a1,a2,a3⟩:=A3.o.cs;cases x1
 .go_wp2_with fail;refine pmb (G9 t _) fun w4 hb4=>?_;have B4:=hid (AC B3.o hb4);have A4:=hid (A3.o.below hb4);clear hb4 a0 a1 a2 a3;obtain⟨a0,a1,a2,a3⟩:=A4.o.cs;have e1:((closing t).toList==[])=x2:=by rw[<-H2.o];exact ay _ _
  by_cases he:(closing t).toList=[]
  .have HV:Hid (Cj t=markT t):=by show _=_;rw[HE.o,<-e1,he];rfl
   clear e1;go_wp2_with fail;refine pmb (QF t ka kl kc _) fun w5 hb5=>?_;have B5:=hid (AC B4.o hb5);clear hb5;go_wp2_with fail;go_ret;exact⟨aC HV.o.symm,B5.o⟩
  .have HV:Hid (Cj t=true):=by show _=_;rw[HE.o,<-e1,show((closing t).toList==[])=false from by cases hq:(closing t).toList with|nil=>exact absurd hq he|cons _ _=>rfl];rfl
   clear e1;go_wp2_with fail;go_ret;exact⟨aC HV.o.symm,B4.o⟩
 .have HV:=hid HE.o;go_wp2_with fail;go_ret;exact⟨aC HV.o.symm,B3.o⟩
theorem zU(t:Tok)(ka:Option Addr)(kl kc:Nat)(w:WD):
  Calls prog 165 #[fB t (.slice ka kl kc)] w fun e w'=>e=.returned (.bool (zQ t))/\Below w.heap.size w w':=by
 have hu:fB t (.slice ka kl kc)=.agg #[.int .i64 t.kind,.string t.word,.string t.unit,.slice ka kl kc]:=rfl;rw[hu];have A2:Hid (VB (w.alloc (.cells #[.int .i64 t.kind,.string t.word,.string t.unit,.slice ka kl kc] 199)) w.heap.size (.int .i64 t.kind) (.string t.word) (.string t.unit) (.slice ka kl kc)):=VB.new _ _ _ _ _;have B2:Hid (Below w.heap.size w (w.alloc (.cells #[.int .i64 t.kind,.string t.word,.string t.unit,.slice ka kl kc] 199))):=bf _ _;obtain⟨a0,a1,a2,a3⟩:=A2.o.cs;obtain⟨x1,H1⟩:=Nm (decide (t.kind=1));obtain⟨x2,H2⟩:=Nm (au t (b1 91));obtain⟨x3,H3⟩:=Nm (au t (b1 123));have HE:Hid (zQ t=(x1||x2||x3||markT t)):=by show _=_;unfold zQ;rw[H1.o,H2.o,H3.o]
 go_in;go_wp2_with fail;generalize w.alloc (.cells #[.int .i64 t.kind,.string t.word,.string t.unit,.slice ka kl kc] 199)=w2 at *;refine(Ci t ka kl kc _).mono ?_;rw[H1.o];rintro e w3 ⟨rfl,hb3⟩;have B3:=hid (AC B2.o hb3);have A3:=hid (A2.o.below hb3);clear hb3 a0 a1 a2 a3;obtain⟨a0,a1,a2,a3⟩:=A3.o.cs;cases x1
 .go_wp2_with fail;refine(jf t _ (b1 91) _).mono ?_;rw[H2.o];rintro e w4 ⟨rfl,hb4⟩;have B4:=hid (AC B3.o hb4);have A4:=hid (A3.o.below hb4);clear hb4 a0 a1 a2 a3;obtain⟨a0,a1,a2,a3⟩:=A4.o.cs;cases x2
  .go_wp2_with fail;refine(jf t _ (b1 123) _).mono ?_;rw[H3.o];rintro e w5 ⟨rfl,hb5⟩;have B5:=hid (AC B4.o hb5);have A5:=hid (A4.o.below hb5);clear hb5 a0 a1 a2 a3;obtain⟨a0,a1,a2,a3⟩:=A5.o.cs;cases x3
   .have HV:=hid HE.o;go_wp2_with fail;refine pmb (QF t ka kl kc _) fun w6 hb6=>?_;have B6:=hid (AC B5.o hb6);clear hb6;go_wp2_with fail;go_ret;exact⟨aC HV.o.symm,B6.o⟩
   .have HV:=hid HE.o;go_wp2_with fail;go_ret;exact⟨aC HV.o.symm,B5.o⟩
  .have HV:=hid HE.o;go_wp2_with fail;go_ret;exact⟨aC HV.o.symm,B4.o⟩
 .have HV:=hid HE.o;go_wp2_with fail;go_ret;exact⟨aC HV.o.symm,B3.o⟩
end
section
attribute [local go_sem] bI bJ aX aY
theorem rw2(w:WD)(a b:BY):(w.alloc (.cells #[.string a,.string b] 9)).ownsRow w.heap.size 9 1 (.slice (some ⟨w.heap.size,0,none⟩) 2 2) 2 ([a,b].map Value.string):=⟨rfl,.inr ⟨w.heap.size,2,_,rfl,Nat.le_refl _,heap_alloc_new w _,Nat.le_refl _,by unfold maxLen;omega,rfl,rfl⟩⟩
theorem mg{a b:BY}(h:a=b):Ending.returned (.string a)=Ending.returned (.string b):=by rw[h]
theorem xJ(w:WD)(o:Obj):Below w.heap.size w ((w.alloc o).drew):=(Ax.alloc nl _).drew
section
variable (wd un:BY) (ka:Option Addr) (kl kc:Nat) (w:WD)
theorem akO:Calls prog 166 #[.agg #[.int .i64 1,.string wd,.string un,.slice ka kl kc]] w fun e w'=>e=.returned (.string (b1 32))/\Below w.heap.size w w':=by have B2:Hid (Below w.heap.size w (w.alloc (.cells #[.int .i64 1,.string wd,.string un,.slice ka kl kc] 199))):=bf _ _;go_in;go_wp2_with fail;go_ret;exact⟨rfl,B2.o⟩
theorem akP:Calls prog 166 #[.agg #[.int .i64 3,.string wd,.string un,.slice ka kl kc]] w fun e w'=>e=.returned (.string (aic))/\Below w.heap.size w w':=by have B2:Hid (Below w.heap.size w (w.alloc (.cells #[.int .i64 3,.string wd,.string un,.slice ka kl kc] 199))):=bf _ _;go_in;go_wp2_with fail;go_ret;exact⟨rfl,B2.o⟩
theorem akQ:Calls prog 166 #[.agg #[.int .i64 8,.string wd,.string un,.slice ka kl kc]] w fun e w'=>e=.returned (.string (aib))/\Below w.heap.size w w':=by have B2:Hid (Below w.heap.size w (w.alloc (.cells #[.int .i64 8,.string wd,.string un,.slice ka kl kc] 199))):=bf _ _;go_in;go_wp2_with fail;go_ret;exact⟨rfl,B2.o⟩
theorem akR:Calls prog 166 #[.agg #[.int .i64 9,.string wd,.string un,.slice ka kl kc]] w fun e w'=>e=.returned (.string (ab7))/\Below w.heap.size w w':=by have B2:Hid (Below w.heap.size w (w.alloc (.cells #[.int .i64 9,.string wd,.string un,.slice ka kl kc] 199))):=bf _ _;go_in;go_wp2_with fail;go_ret;exact⟨rfl,B2.o⟩
theorem aiW:Calls prog 166 #[.agg #[.int .i64 13,.string wd,.string un,.slice ka kl kc]] w fun e w'=>e=.returned (.string (aie))/\Below w.heap.size w w':=by have B2:Hid (Below w.heap.size w (w.alloc (.cells #[.int .i64 13,.string wd,.string un,.slice ka kl kc] 199))):=bf _ _;go_in;go_wp2_with fail;go_ret;exact⟨rfl,B2.o⟩
theorem akS(k:Int)(h1:(k==1)=false)(h2:(k==2)=false)(h3:(k==3)=false)(h4:(k==4)=false)(h6:(k==6)=false)(h7:(k==7)=false)(h8:(k==8)=false)(h9:(k==9)=false)(h10:(k==10)=false)(h11:(k==11)=false)(h12:(k==12)=false)(h13:(k==13)=false)(h14:(k==14)=false)(h15:(k==15)=false):Calls prog 166 #[.agg #[.int .i64 k,.string wd,.string un,.slice ka kl kc]] w fun e w'=>e=.returned (.string wd)/\Below w.heap.size w w':=by have B2:Hid (Below w.heap.size w (w.alloc (.cells #[.int .i64 k,.string wd,.string un,.slice ka kl kc] 199))):=bf _ _;go_in;go_wp2_with fail;go_ret;exact⟨rfl,B2.o⟩
theorem akT(hw:wd.size<=4000000):Calls prog 166 #[.agg #[.int .i64 2,.string wd,.string un,.slice ka kl kc]] w fun e w'=>e=.returned (.string (xG wd))/\Below w.heap.size w w':=by have B2:Hid (Below w.heap.size w (w.alloc (.cells #[.int .i64 2,.string wd,.string un,.slice ka kl kc] 199))):=bf _ _;go_in;go_wp2_with fail;generalize w.alloc (.cells #[.int .i64 2,.string wd,.string un,.slice ka kl kc] 199)=w2 at *;have hs2:=B2.o.size;refine pmb (aci wd _ hw) fun w3 hb3=>?_;have B3:=hid (B2.o.trans (hb3.mono hs2));clear hb3;go_wp2_with fail;go_ret;exact⟨rfl,B3.o⟩
theorem aiX(hw:wd.size<=4000000):Calls prog 166 #[.agg #[.int .i64 12,.string wd,.string un,.slice ka kl kc]] w fun e w'=>e=.returned (.string (Hw wd))/\Below w.heap.size w w':=by have B2:Hid (Below w.heap.size w (w.alloc (.cells #[.int .i64 12,.string wd,.string un,.slice ka kl kc] 199))):=bf _ _;go_in;go_wp2_with fail;generalize w.alloc (.cells #[.int .i64 12,.string wd,.string un,.slice ka kl kc] 199)=w2 at *;have hs2:=B2.o.size;refine pmb (af4 wd _ hw) fun w3 hb3=>?_;have B3:=hid (B2.o.trans (hb3.mono hs2));clear hb3;go_wp2_with fail;go_ret;exact⟨rfl,B3.o⟩
theorem aiY(hw:wd.size<=4000000):Calls prog 166 #[.agg #[.int .i64 14,.string wd,.string un,.slice ka kl kc]] w fun e w'=>e=.returned (.string (dP wd))/\Below w.heap.size w w':=by have B2:Hid (Below w.heap.size w (w.alloc (.cells #[.int .i64 14,.string wd,.string un,.slice ka kl kc] 199))):=bf _ _;go_in;go_wp2_with fail;generalize w.alloc (.cells #[.int .i64 14,.string wd,.string un,.slice ka kl kc] 199)=w2 at *;have hs2:=B2.o.size;refine pmb (oW wd _ hw) fun w3 hb3=>?_;have B3:=hid (B2.o.trans (hb3.mono hs2));clear hb3;go_wp2_with fail;go_ret;exact⟨rfl,B3.o⟩
theorem akU(hw:wd.size<=4000000):Calls prog 166 #[.agg #[.int .i64 4,.string wd,.string un,.slice ka kl kc]] w fun e w'=>e=.returned (.string (b1 35++dP wd))/\Below w.heap.size w w':=by
 have B2:Hid (Below w.heap.size w (w.alloc (.cells #[.int .i64 4,.string wd,.string un,.slice ka kl kc] 199))):=bf _ _;obtain⟨nm,Aw⟩:=Nm (dP wd);have HV:Hid (aG [⟨#[35]⟩,nm]=b1 35++dP wd):=by show _=_;rw[Aw.o];simp[aG,b1]
 have hsz:nm.size<=4*wd.size:=by rw[<-Aw.o];exact fQ wd
 go_in;go_wp2_with fail;generalize w.alloc (.cells #[.int .i64 4,.string wd,.string un,.slice ka kl kc] 199)=w2 at *;have hs2:=B2.o.size;refine(oW wd _ hw).mono ?_;rw[Aw.o];rintro e w3 ⟨rfl,hb3⟩;have B3:=hid (B2.o.trans (hb3.mono hs2));have hs3:=B3.o.size;clear hb3;go_wp2_with fail;refine pmb (dQ [⟨#[35]⟩,nm] w3.heap.size _ _ (rw2 w3 ⟨#[35]⟩ nm) Ab (by show 1+(nm.size+0)<=_;omega)) fun w5 hb5=>?_;have B5:Hid (Below w.heap.size w w5):=(B3.o.alloc hs3 _).trans (hb5.mono An);clear hb5;go_wp2_with fail;go_ret;exact⟨mg HV.o,B5.o⟩
theorem aiZ(hw:wd.size<=4000000):Calls prog 166 #[.agg #[.int .i64 10,.string wd,.string un,.slice ka kl kc]] w fun e w'=>e=.returned (.string (b1 64++dP wd))/\Below w.heap.size w w':=by
 have B2:Hid (Below w.heap.size w (w.alloc (.cells #[.int .i64 10,.string wd,.string un,.slice ka kl kc] 199))):=bf _ _;obtain⟨nm,Aw⟩:=Nm (dP wd);have HV:Hid (aG [⟨#[64]⟩,nm]=b1 64++dP wd):=by show _=_;rw[Aw.o];simp[aG,b1]
 have hsz:nm.size<=4*wd.size:=by rw[<-Aw.o];exact fQ wd
 go_in;go_wp2_with fail;generalize w.alloc (.cells #[.int .i64 10,.string wd,.string un,.slice ka kl kc] 199)=w2 at *;have hs2:=B2.o.size;refine(oW wd _ hw).mono ?_;rw[Aw.o];rintro e w3 ⟨rfl,hb3⟩;have B3:=hid (B2.o.trans (hb3.mono hs2));have hs3:=B3.o.size;clear hb3;go_wp2_with fail;refine pmb (dQ [⟨#[64]⟩,nm] w3.heap.size _ _ (rw2 w3 ⟨#[64]⟩ nm) Ab (by show 1+(nm.size+0)<=_;omega)) fun w5 hb5=>?_;have B5:Hid (Below w.heap.size w w5):=(B3.o.alloc hs3 _).trans (hb5.mono An);clear hb5;go_wp2_with fail;go_ret;exact⟨mg HV.o,B5.o⟩
theorem akV(hw:wd.size<=4000000):Calls prog 166 #[.agg #[.int .i64 6,.string wd,.string un,.slice ka kl kc]] w fun e w'=>e=.returned (.string (wd++b1 37))/\Below w.heap.size w w':=by
 have B2:Hid (Below w.heap.size w (w.alloc (.cells #[.int .i64 6,.string wd,.string un,.slice ka kl kc] 199))):=bf _ _;have HV:Hid (aG [wd,⟨#[37]⟩]=wd++b1 37):=by show _=_;simp[aG,b1]
 have A2:Hid (VB (w.alloc (.cells #[.int .i64 6,.string wd,.string un,.slice ka kl kc] 199)) w.heap.size (.int .i64 6) (.string wd) (.string un) (.slice ka kl kc)):=VB.new _ _ _ _ _;go_in;go_upto_region 11 with fail
 generalize w.alloc (.cells #[.int .i64 6,.string wd,.string un,.slice ka kl kc] 199)=w2 at *;have hs2:=B2.o.size;obtain⟨a0,a1,a2,a3⟩:=A2.o.cs;go_wp2_with fail;refine pmb (dQ [wd,⟨#[37]⟩] w2.heap.size _ _ (rw2 w2 wd ⟨#[37]⟩) Ab (by show wd.size+(1+0)<=_;omega)) fun w5 hb5=>?_;have B5:Hid (Below w.heap.size w w5):=(B2.o.alloc hs2 _).trans (hb5.mono An);clear hb5;go_wp2_with fail;go_ret;exact⟨mg HV.o,B5.o⟩
theorem akW(hw:wd.size<=4000000)(hu:un.size<=4000000):Calls prog 166 #[.agg #[.int .i64 7,.string wd,.string un,.slice ka kl kc]] w fun e w'=>e=.returned (.string (wd++Fe un))/\Below w.heap.size w w':=by
 have B2:Hid (Below w.heap.size w (w.alloc (.cells #[.int .i64 7,.string wd,.string un,.slice ka kl kc] 199)).drew):=xJ _ _;have A2:Hid (VB (w.alloc (.cells #[.int .i64 7,.string wd,.string un,.slice ka kl kc] 199)).drew w.heap.size (.int .i64 7) (.string wd) (.string un) (.slice ka kl kc)):=VB.new _ _ _ _ _;obtain⟨us,Hus⟩:=Nm (Fe un);have HV:Hid (aG [wd,us]=wd++Fe un):=by show _=_;rw[Hus.o];simp[aG]
 have hsz:us.size<=4*un.size:=by rw[<-Hus.o];exact Ih un
 go_in;go_wp2_with fail;refine wp_region_any Ao ?_;change wpAny _ _ _ _ _ _ _ (World.drew _);generalize(w.alloc (.cells #[.int .i64 7,.string wd,.string un,.slice ka kl kc] 199)).drew=w2 at *;have hs2:=B2.o.size;refine wpAny_of_held (S:=fun wx=>VB wx w.heap.size (.int .i64 7) (.string wd) (.string un) (.slice ka kl kc)) _ _ _ _ ?_;refine dH 0 rfl A2.o (by intro w hSw;obtain⟨a0,a1,a2,a3⟩:=hSw.cs;exact gs) ?_;refine dH 1 rfl A2.o (by intro w hSw;obtain⟨a0,a1,a2,a3⟩:=hSw.cs;exact gs) ?_;refine dH 2 rfl A2.o (by intro w hSw;obtain⟨a0,a1,a2,a3⟩:=hSw.cs;exact gs) ?_;refine dH 3 rfl A2.o (by intro w hSw;obtain⟨a0,a1,a2,a3⟩:=hSw.cs;exact gs) ?_
 refine dH 4 rfl A2.o (by intro w hSw;obtain⟨a0,a1,a2,a3⟩:=hSw.cs;exact gs) ?_;refine dH 5 rfl A2.o (by intro w hSw;obtain⟨a0,a1,a2,a3⟩:=hSw.cs;exact gs) ?_;refine iW 6 fun K hK=>?_;go_simp;refine(aiV un _ hu).mono ?_;rw[Hus.o];rintro e w3 ⟨rfl,hb3⟩;have B3:=hid (B2.o.trans (hb3.mono hs2));have A3:=hid (A2.o.below hb3);have hs3:=B3.o.size;clear hb3;refine hK.o _ _ A3.o (fun _=>?_);clear hK K;refine iW 7 fun K hK=>?_;go_simp;refine hK.o _ _ (A3.o.alloc _) (fun _=>?_);clear hK K;refine iW 8 fun K hK=>?_;go_simp;refine pmb (dQ [wd,us] w3.heap.size _ _ (rw2 w3 wd us) Ab (by show wd.size+(us.size+0)<=_;omega)) fun w5 hb5=>?_
 have B5:Hid (Below w.heap.size w w5):=(B3.o.alloc hs3 _).trans (hb5.mono An);have A5:Hid (VB w5 w.heap.size (.int .i64 7) (.string wd) (.string un) (.slice ka kl kc)):=(A3.o.alloc _).below hb5;clear hb5;refine hK.o _ _ A5.o (fun _=>?_);clear hK K;refine iW 9 fun K hK=>?_;go_simp;refine hK.o _ _ (A5.o) (fun _=>?_);clear hK K;refine wpAnyH_done Ao ?_ _;go_wp2_with fail;go_ret;exact⟨mg HV.o,B5.o⟩
end
end
def jps(sep:BY)(ps:List BY):Nat->List BY
 |0=>[]
 |k+1=>jps sep ps k++((if k=0 then [] else [sep])++[ps.getD k aA])
theorem Cm(sep:BY)(ps:List BY)(k:Nat):jps sep ps (k+1)=jps sep ps k++((if k=0 then [] else [sep])++[ps.getD k aA]):=rfl
theorem af5(sep:BY)(ps:List BY)(k:Nat):(jps sep ps k).length<=2*k:=by
 induction k with
 |zero=>simp[jps]
 |succ k ih=>rw[Cm];split<;>simp<;>omega
def acj(sep:BY)(ps:List BY):Nat:=total ps+ps.length*sep.size
theorem aac(sep:BY)(ps:List BY):∀k,k<=ps.length->total (jps sep ps k)<=total (ps.take k)+k*sep.size:=by
 intro k;induction k with
 |zero=>intro _;simp[jps,total]
 |succ k ih=>
  intro hk;have h:=ih oo;rw[Cm,dh,dh,List.take_succ_eq_append_getElem (show k<ps.length by omega),dh,List.getD_eq_getElem?_getD,List.getElem?_eq_getElem (show k<ps.length by omega)];have e:total (if k=0 then [] else [sep])<=sep.size:=by split<;>simp[total]
  rw[Nat.add_mul];simp only[Option.getD_some];omega
theorem acn(sep:BY):∀(ps:List BY) (pre:List BY) (k:Nat),0<k->pre.length=k->aG (jps sep (pre++ps) (k+ps.length))=aG (jps sep (pre++ps) k)++(if ps=[] then aA else sep++jX sep ps):=by
 intro ps;induction ps with
 |nil=>intro pre k hk hp;simp[mO]
 |cons a r ih=>
  intro pre k hk hp;have h:=ih (pre++[a]) (k+1) oo (by simp[hp]);rw[List.append_assoc,List.singleton_append]at h;rw[show k+(a::r).length=k+1+r.length by simp;omega,h,Cm,if_neg oo,qG,qG];have hg:(pre++a::r).getD k aA=a:=by rw[List.getD_eq_getElem?_getD,List.getElem?_append_right oo,hp];simp
  rw[hg,show(if (a::r)=[] then aA else sep++jX sep (a::r))=sep++jX sep (a::r) from if_neg (by simp)];have e1:aG [sep]=sep:=by simp[aG]
  have e2:aG [a]=a:=by simp[aG]
  rw[e1,e2];cases r with
  |nil=>rw[if_pos rfl,mO];rfl
  |cons b q=>rw[if_neg (by simp)];show _++(sep++a)++(sep++jX sep (b::q))=_++(sep++(a++(sep++jX sep (b::q))));rw[ByteArray.append_assoc,ByteArray.append_assoc]
theorem af6(sep:BY)(ps:List BY):aG (jps sep ps ps.length)=jX sep ps:=by
 cases ps with
 |nil=>rfl
 |cons a r=>
  have h:=acn sep r [a] 1 oo rfl;rw[show(a::r).length=1+r.length by simp;omega];rw[List.singleton_append]at h;rw[h];show aG (jps sep (a::r) 1)++_=_;have e:jps sep (a::r) 1=[a]:=rfl;rw[e];cases r with
  |nil=>simp[aG,jX,mO]
  |cons b q=>rw[if_neg (by simp)];simp[aG,jX]
theorem Ii(sep:BY)(ps:List BY)(base:Nat)(v:Av)(w:WD)(h:w.ownsRow base 9 1 v ps.length (ps.map Value.string))(hn:ps.length<=4194304)(ht:acj sep ps<=1099511627776):
  Calls prog 192 #[.string sep,v] w fun e w'=>e=.returned (.string (jX sep ps))/\Below w.heap.size w w':=by
 have HO:=hid h;obtain⟨va,vc,rfl⟩:=kQ h;clear h;obtain⟨iS,wK⟩:=info_str;have HI:=hid wK;clear wK;go_in;go_wp2_with fail;go_loopg[5,10] ps.length (fun gg v5 v10 wr=>∃(u:Av) (k:Nat),u=v5/\k+gg=ps.length/\v10=.int .i64 (k:Int)/\Aside (wr.ownsRow w.heap.size 9 1 u (jps sep ps k).length ((jps sep ps k).map Value.string)/\Below w.heap.size w wr));case atStart=>exact⟨_,0,rfl,oo,rfl,World.ownsRow_nil _ _ _ _,Ax⟩
 case round=>
  obtain⟨u,k,rfl,hk,rfl,hA⟩:=hrel;have O1:=hid hA.o.1;have B1:=hid hA.o.2;clear hA;have hsz:=B1.o.size;have hjl:=af5 sep ps k;by_cases hlt:k<ps.length
  .have h1:(k:Int)<(ps.length:Int):=oo;obtain⟨g,c',hq⟩:∃g c',Value.slice va ps.length vc=.slice (some ⟨g,0,none⟩) ps.length c':=by
    rcases HO.o.2 with⟨hv,hn⟩|⟨g,c',_,hv,_⟩
    .omega
    .exact⟨g,c',hv⟩
   injection hq with hq1 _ hq2
   subst hq1 hq2;have hgl:g<w.heap.size:=(HO.o.lt g rfl).2;have c0:wr.cell? ⟨g,k,none⟩=some (.string (ps.getD k aA)):=by have:=HO.o.cells (g:=g) rfl k (.string (ps.getD k aA)) (by rw[List.getElem?_map,List.getD_eq_getElem?_getD,List.getElem?_eq_getElem hlt];rfl);rw[Addr.add_lit,Nat.zero_add]at this;rw[B1.o.cell (p:=⟨g,_,none⟩) hgl];exact this
   have HJ:Hid (jps sep ps (k+1)=jps sep ps k++((if k=0 then [] else [sep])++[ps.getD k aA])):=Cm sep ps k;generalize ps.getD k aA=x at *;by_cases h0:k=0
   .subst h0;have HJ2:=hid HJ.o;go_wp2_with(at_builtin;go_must(refine wpList_append_own _ rfl _ _ 26 rfl w.heap.size 9 iS (.string ⟨#[]⟩) 1 16 Tryz.underlying26 HI.o.1 HI.o.2.1 HI.o.2.2.1 HI.o.2.2.2 rfl oo u (jps sep ps 0).length ((jps sep ps 0).map Value.string) rfl (O1.o.alloc _) ⟨wr.heap.size,0,none⟩ 1 1 [.string x] rfl rfl (cell_one_new _ _ _) (aT _) As oo An ?_));intro v4 w4 hown4 dS _;have O4:Hid (w4.ownsRow w.heap.size 9 1 v4 (jps sep ps (0+1)).length ((jps sep ps (0+1)).map Value.string)):=by show World.ownsRow _ _ _ _ _ _ _;rw[HJ2.o];first|(rw[List.length_append,List.map_append];exact hown4)|simpa using hown4
    have B4:Hid (Below w.heap.size w w4):=(B1.o.alloc hsz _).grown dS An (fun rr hr=>(O1.o.lt rr hr).1);clear hown4 dS;go_wp2_with fail;go_roundg(gk-1);case measure=>omega
    case rel=>exact⟨v4,0+1,rfl,oo,by congr 1,O4.o,B4.o⟩
   .have h0':(0:Int)<(k:Int):=oo;have HJ2:Hid (jps sep ps (k+1)=(jps sep ps k++[sep])++[x]):=by show _=_;rw[HJ.o,if_neg h0,List.append_assoc]
    clear h0;go_wp2_with(at_builtin;go_must(refine wpList_append_own _ rfl _ _ 26 rfl w.heap.size 9 iS (.string ⟨#[]⟩) 1 16 Tryz.underlying26 HI.o.1 HI.o.2.1 HI.o.2.2.1 HI.o.2.2.2 rfl oo u (jps sep ps k).length ((jps sep ps k).map Value.string) rfl (O1.o.alloc _) ⟨wr.heap.size,0,none⟩ 1 1 [.string sep] rfl rfl (cell_one_new _ _ _) (aT _) As oo An ?_));intro v3 w3 hown3 ab5 _;have O3:Hid (w3.ownsRow w.heap.size 9 1 v3 (jps sep ps k++[sep]).length ((jps sep ps k++[sep]).map Value.string)):=by show World.ownsRow _ _ _ _ _ _ _;first|(rw[List.length_append,List.map_append];exact hown3)|simpa using hown3
    have B3:Hid (Below w.heap.size w w3):=(B1.o.alloc hsz _).grown ab5 An (fun rr hr=>(O1.o.lt rr hr).1);have hs3:=B3.o.size;have hl3:(jps sep ps k++[sep]).length<=2*k+1:=by simp;omega
    clear hown3 ab5 c0;go_wp2_with(at_builtin;go_must(refine wpList_append_own _ rfl _ _ 26 rfl w.heap.size 9 iS (.string ⟨#[]⟩) 1 16 Tryz.underlying26 HI.o.1 HI.o.2.1 HI.o.2.2.1 HI.o.2.2.2 rfl oo v3 (jps sep ps k++[sep]).length ((jps sep ps k++[sep]).map Value.string) rfl (O3.o.alloc _) ⟨w3.heap.size,0,none⟩ 1 1 [.string x] rfl rfl (cell_one_new _ _ _) (aT _) (by unfold maxLen;simp;omega) oo An ?_));intro v4 w4 hown4 dS _;have O4:Hid (w4.ownsRow w.heap.size 9 1 v4 (jps sep ps (k+1)).length ((jps sep ps (k+1)).map Value.string)):=by show World.ownsRow _ _ _ _ _ _ _;rw[HJ2.o];first|(rw[List.length_append,List.map_append];exact hown4)|simpa using hown4
    have B4:Hid (Below w.heap.size w w4):=(B3.o.alloc hs3 _).grown dS An (fun rr hr=>(O3.o.lt rr hr).1);clear hown4 dS;go_wp2_with fail;go_roundg(gk-1);case measure=>omega
    case rel=>exact⟨v4,k+1,rfl,oo,by congr 1,O4.o,B4.o⟩
  .have h1:(ps.length:Int)<=(k:Int):=oo;have hke:k=ps.length:=oo;subst hke;have hjt:=aac sep ps ps.length nl;rw[List.take_of_length_le nl]at hjt;have HV:Hid (aG (jps sep ps ps.length)=jX sep ps):=af6 sep ps;unfold acj at ht;go_wp2_with fail;refine pmb (dQ (jps sep ps ps.length) w.heap.size u _ O1.o oo oo) fun w5 hb5=>?_;have B5:=hid (B1.o.trans (hb5.mono hsz));clear hb5;go_wp2_with fail;go_ret;exact⟨mg HV.o,B5.o⟩
section
attribute [local go_sem] bI bJ aX aY
def sG(c:Nat):Int:=if c=32 then 1 else if c=62 then 2 else if c=43 then 3 else if c=126 then 4 else 0
theorem xK(s:BY):au (hdN []).t s=false:=by simp[au,hdN,Tok.k]
theorem aco{l:List Nd}(h:au (hdN (aH l)).t (b1 62)=true):gU l=some (62,aH (aH l).tail):=by
 unfold gU;cases hd:aH l with
 |nil=>rw[hd,xK]at h;cases h
 |cons n r=>rw[hd]at h;simp only[hdN]at h;simp[dN,h]
theorem VA{l:List Nd}(h0:au (hdN (aH l)).t (b1 62)=false)(h:au (hdN (aH l)).t (b1 43)=true):gU l=some (43,aH (aH l).tail):=by
 unfold gU;cases hd:aH l with
 |nil=>rw[hd,xK]at h;cases h
 |cons n r=>rw[hd]at h h0;simp only[hdN]at h h0;simp[dN,h,h0]
theorem QG{l:List Nd}(h0:au (hdN (aH l)).t (b1 62)=false)(h1:au (hdN (aH l)).t (b1 43)=false)(h:au (hdN (aH l)).t (b1 126)=true):gU l=some (126,aH (aH l).tail):=by
 unfold gU;cases hd:aH l with
 |nil=>rw[hd,xK]at h;cases h
 |cons n r=>rw[hd]at h h0 h1;simp only[hdN]at h h0 h1;simp[dN,h,h0,h1]
theorem QH{l:List Nd}(h0:au (hdN (aH l)).t (b1 62)=false)(h1:au (hdN (aH l)).t (b1 43)=false)(h2:au (hdN (aH l)).t (b1 126)=false)(h:(aH l).length<l.length):gU l=some (32,aH l):=by
 unfold gU;cases hd:aH l with
 |nil=>
  have:l≠[]:=by rintro rfl;simp at h
  simp[this]
 |cons n r=>rw[hd]at h h0 h1 h2;simp only[hdN]at h0 h1 h2;simp only[dN,h0,h1,h2];simp only[Bool.false_eq_true,if_false];rw[if_pos h]
theorem VD{l:List Nd}(h0:au (hdN (aH l)).t (b1 62)=false)(h1:au (hdN (aH l)).t (b1 43)=false)(h2:au (hdN (aH l)).t (b1 126)=false)(h:¬(aH l).length<l.length):gU l=none:=by
 unfold gU;cases hd:aH l with
 |nil=>
  have:l=[]:=by rw[hd]at h;exact List.eq_nil_of_length_eq_zero (by simp only[List.length_nil]at h;omega)
  simp[this]
 |cons n r=>rw[hd]at h h0 h1 h2;simp only[hdN]at h0 h1 h2;simp only[dN,h0,h1,h2];simp only[Bool.false_eq_true,if_false];rw[if_neg h]
theorem Ov(B b:Nat)(sv:Av)(l:List Nd)(w:WD)(h:fV B w b sv l):
  Calls prog 198 #[.pointer (some ⟨b,0,none⟩)] w fun e w'=>∃sv' l',fV B w' b sv' l'/\Turn b w w'/\(gU l=none/\e=.returned (.tuple #[.int .i64 0,.bool false])\/∃c,gU l=some (c,l')/\e=.returned (.tuple #[.int .i64 (sG c),.bool true])):=by
 have R1:=hid h;clear h;obtain⟨d,Hd⟩:=Nm (aH l);obtain⟨bl,Hbl⟩:=Nm (decide (d.length<l.length));go_in;go_wp2_with fail;refine(y7 B b sv l _ R1.o).mono ?_;rw[Hd.o,Hbl.o];rintro e w1 ⟨sv1,rfl,hR1,hT1⟩;have R2:=hid hR1;have T2:=hid hT1;clear hR1 hT1 R1;go_wp2_with fail;refine(oP B b sv1 d (b1 62) _ R2.o).mono ?_;rintro e w2 ⟨Yv,rfl,hR2,hT2⟩;have T3:=hid (T2.o.trans hT2);clear hT2;obtain⟨s1,Az⟩:=Nm (au (hdN d).t (b1 62));rw[Az.o];cases s1
 .have R3:Hid (fV B w2 b Yv d):=by have:=hR2;rw[y5 Az.o]at this;exact this
  clear hR2 R2 T2;go_wp2_with fail;refine(oP B b Yv d (b1 43) _ R3.o).mono ?_;rintro e w3 ⟨Em,rfl,D7,Ox⟩;have T4:=hid (T3.o.trans Ox);clear Ox;obtain⟨s2,Hs2⟩:=Nm (au (hdN d).t (b1 43));rw[Hs2.o];cases s2
  .have R4:Hid (fV B w3 b Em d):=by have:=D7;rw[y5 Hs2.o]at this;exact this
   clear D7 R3 T3;go_wp2_with fail;refine(oP B b Em d (b1 126) _ R4.o).mono ?_;rintro e w4 ⟨sv4,rfl,ZR,hT4⟩;have T5:=hid (T4.o.trans hT4);clear hT4;obtain⟨s3,Hs3⟩:=Nm (au (hdN d).t (b1 126));rw[Hs3.o];cases s3
   .have R5:Hid (fV B w4 b sv4 d):=by have:=ZR;rw[y5 Hs3.o]at this;exact this
    clear ZR R4 T4;cases bl
    .have HV:Hid (gU l=none):=VD (by rw[Hd.o];exact Az.o) (by rw[Hd.o];exact Hs2.o) (by rw[Hd.o];exact Hs3.o) (by rw[Hd.o];have:=Hbl.o;simpa using this);go_wp2_with fail;go_ret2
     exact⟨_,_,R5.o,T5.o,.inl ⟨HV.o,rfl⟩⟩
    .have HV:Hid (gU l=some (32,d)):=by
      have:=QH (l:=l) (by rw[Hd.o];exact Az.o) (by rw[Hd.o];exact Hs2.o) (by rw[Hd.o];exact Hs3.o) (by rw[Hd.o];have:=Hbl.o;simpa using this);rwa[Hd.o]at this
     go_wp2_with fail;go_ret2
     exact⟨_,_,R5.o,T5.o,.inr ⟨32,HV.o,rfl⟩⟩
   .have R5:Hid (fV B w4 b sv4 d.tail):=by have:=ZR;rw[qZ Hs3.o]at this;exact this
    clear ZR R4 T4;have HV:Hid (gU l=some (126,aH d.tail)):=by have:=QG (l:=l) (by rw[Hd.o];exact Az.o) (by rw[Hd.o];exact Hs2.o) (by rw[Hd.o];exact Hs3.o);rwa[Hd.o]at this
    go_wp2_with fail;refine(y7 B b sv4 d.tail _ R5.o).mono ?_;rintro e w6 ⟨sv6,rfl,QI,Qe⟩;have R6:=hid QI;have T6:=hid (T5.o.trans Qe);clear QI Qe;go_wp2_with fail;go_ret2
    exact⟨_,_,R6.o,T6.o,.inr ⟨126,HV.o,rfl⟩⟩
  .have R4:Hid (fV B w3 b Em d.tail):=by have:=D7;rw[qZ Hs2.o]at this;exact this
   clear D7 R3 T3;have HV:Hid (gU l=some (43,aH d.tail)):=by have:=VA (l:=l) (by rw[Hd.o];exact Az.o) (by rw[Hd.o];exact Hs2.o);rwa[Hd.o]at this
   go_wp2_with fail;refine(y7 B b Em d.tail _ R4.o).mono ?_;rintro e w6 ⟨sv6,rfl,QI,Qe⟩;have R6:=hid QI;have T6:=hid (T4.o.trans Qe);clear QI Qe;go_wp2_with fail;go_ret2
   exact⟨_,_,R6.o,T6.o,.inr ⟨43,HV.o,rfl⟩⟩
 .have R3:Hid (fV B w2 b Yv d.tail):=by have:=hR2;rw[qZ Az.o]at this;exact this
  clear hR2 R2 T2;have HV:Hid (gU l=some (62,aH d.tail)):=by have:=aco (l:=l) (by rw[Hd.o];exact Az.o);rwa[Hd.o]at this
  go_wp2_with fail;refine(y7 B b Yv d.tail _ R3.o).mono ?_;rintro e w6 ⟨sv6,rfl,QI,Qe⟩;have R6:=hid QI;have T6:=hid (T3.o.trans Qe);clear QI Qe;go_wp2_with fail;go_ret2
  exact⟨_,_,R6.o,T6.o,.inr ⟨62,HV.o,rfl⟩⟩
end
section
attribute [local go_sem] bI bJ aX aY
def stB(s:BY):Bool:=decide (s=BL\/s=uY\/s=BM\/s=Eh)
theorem ai0(s:BY):stB s=((s.toList==[114,111,111,116])||(s.toList==[102,105,114,115,116,45,99,104,105,108,100])||(s.toList==[108,97,115,116,45,99,104,105,108,100])||(s.toList==[101,109,112,116,121])):=by simp only[ay];unfold stB BL uY BM Eh;simp only[Bool.decide_or,Bool.or_assoc]
theorem aad(s:BY)(w:WD):Calls prog 305 #[.string s] w fun e w'=>e=.returned (.bool (stB s))/\w'=w:=by
 have HV:Hid (stB s=((s.toList==[114,111,111,116])||(s.toList==[102,105,114,115,116,45,99,104,105,108,100])||(s.toList==[108,97,115,116,45,99,104,105,108,100])||(s.toList==[101,109,112,116,121]))):=ai0 s;cases h1:(s.toList==[114,111,111,116])
 .cases h2:(s.toList==[102,105,114,115,116,45,99,104,105,108,100])
  .cases h3:(s.toList==[108,97,115,116,45,99,104,105,108,100])
   .cases h4:(s.toList==[101,109,112,116,121])
    .rw[h1,h2,h3,h4]at HV;go_in;go_wp2_with fail;go_ret;exact⟨aC HV.o.symm,rfl⟩
    .rw[h1,h2,h3,h4]at HV;go_in;go_wp2_with fail;go_ret;exact⟨aC HV.o.symm,rfl⟩
   .rw[h1,h2,h3]at HV;go_in;go_wp2_with fail;go_ret;exact⟨aC HV.o.symm,rfl⟩
  .rw[h1,h2]at HV;go_in;go_wp2_with fail;go_ret;exact⟨aC HV.o.symm,rfl⟩
 .rw[h1]at HV;go_in;go_wp2_with fail;go_ret;exact⟨aC HV.o.symm,rfl⟩
theorem acp{v:Nat}(h:999<v)(l:List UInt8):oN v l=none:=by
 cases l with
 |nil=>unfold oN;rw[if_neg oo]
 |cons c r=>unfold oN;rw[if_neg oo]
theorem Yw{s:BY}{i:Nat}(h:i<s.size):pk s i=((s.data.toList[i]'(by simpa using h)).toNat:Int):=by rw[zK h];rfl
theorem Oy(s:BY)(w:WD)(hs:s.size<=4000000):
  Calls prog 307 #[.string s] w fun e w'=>(oN 0 s.data.toList=none/\e=.returned (.tuple #[.int .i64 0,.bool false])\/∃v:Nat,oN 0 s.data.toList=some v/\e=.returned (.tuple #[.int .i64 (v:Int),.bool true]))/\w'=w:=by
 have hdl:s.data.toList.length=s.size:=by simp
 go_in;go_wp2_with fail;go_loopg[4,8] s.size (fun g v4 v8 wr=>∃(n i:Nat),v4=.int .i64 (n:Int)/\v8=.int .i64 (i:Int)/\i+g=s.size/\n<=999/\Aside (oN 0 s.data.toList=oN n (s.data.toList.drop i)/\w=wr));case atStart=>exact⟨0,0,rfl,rfl,oo,oo,by simp,rfl⟩
 case round=>
  obtain⟨n,i,rfl,rfl,hi,hn,hA⟩:=hrel;have HE:=hid hA.o.1;obtain rfl:=hA.o.2;clear hA;by_cases hlt:i<s.size
  .have h1:(i:Int)<(s.size:Int):=oo;have hix:=gQ s i hlt;have hp0:=abT s i;have hp1:=Yj s i;have HD:Hid (oN n (s.data.toList.drop i)=if 48<=(pk s i).toNat/\(pk s i).toNat<=57/\n<=999 then oN (10*n+(pk s i).toNat-48) (s.data.toList.drop (i+1)) else none):=by
    show _=_;rw[List.drop_eq_getElem_cons (by rw[hdl];exact hlt),Yw hlt];rfl
   have hpp:0<=pk s i:=tK hlt;obtain⟨c,Hc⟩:=Nm (pk s i);rw[Hc.o]at hix hp0 hp1 HD hpp;by_cases h48:c<48
   .have HN:Hid (oN 0 s.data.toList=none):=by
     show _=_;rw[HE.o,HD.o,if_neg oo]
    clear HD;go_wp2_with fail;go_ret2
    exact⟨.inl ⟨HN.o,rfl⟩,rfl⟩
   .by_cases h57:57<c
    .have HN:Hid (oN 0 s.data.toList=none):=by
      show _=_;rw[HE.o,HD.o,if_neg oo]
     clear HD;go_wp2_with fail;go_ret2
     exact⟨.inl ⟨HN.o,rfl⟩,rfl⟩
    .obtain⟨k,rfl⟩:∃k:Nat,c=48+k:=⟨(c-48).toNat,oo⟩;have hk9:k<=9:=oo;have HN:Hid (oN 0 s.data.toList=oN (10*n+k) (s.data.toList.drop (i+1))):=by
      show _=_;rw[HE.o,HD.o,if_pos oo];congr 1
      omega
     have hw1:IntKind.u8.wrap (48+(k:Int)-48)=(k:Int):=by rw[show(48+(k:Int)-48)=(k:Int) from by omega];rw[IntKind.wrap_u8];omega
     clear HD HE hp0 hp1 hpp Hc;by_cases hbig:999<n*10+k
     .have hb2:(999:Int)<(n:Int)*10+(k:Int):=oo;have HB:Hid (oN 0 s.data.toList=none):=by
       show _=_;rw[HN.o,acp oo]
      clear HN;go_wp2_with fail;go_ret2
      exact⟨.inl ⟨HB.o,rfl⟩,rfl⟩
     .have hb2:(n:Int)*10+(k:Int)<=999:=oo;go_wp2_with fail;go_roundg(s.size-(i+1));case measure=>omega
      case rel=>exact⟨n*10+k,i+1,by congr 1,by congr 1,oo,oo,by rw[HN.o,Nat.mul_comm],rfl⟩
  .have h1:(s.size:Int)<=(i:Int):=oo;have HN:Hid (oN 0 s.data.toList=some n):=by
    show _=_;rw[HE.o,List.drop_of_length_le (by rw[hdl];omega)];unfold oN;rw[if_pos hn]
   clear HE;go_wp2_with fail;go_ret2
   exact⟨.inr ⟨n,HN.o,rfl⟩,rfl⟩
end
section
abbrev wV(α:Type):=(Nat->Prop)->WD->α->List Av->Prop
def Fair{α:Type}(C:wV α):Prop:=∀(S S':Nat->Prop) (w w':WD) (x:α) (cs:List Av),(∀g,S g->S' g)->(∀g,S g->w'.heap[g]?=w.heap[g]?)->C S w x cs->C S' w' x cs
def ug{α:Type}(C:wV α)(sz:Nat):Prop:=∀S w x cs,C S w x cs->cs.length=sz
section
variable {α:Type} (C:wV α) (sz:Nat)
def EG(S:Nat->Prop)(w:WD)(x:α)(g o:Nat):Prop:=S g/\∃cs,C S w x cs/\∀j u,cs[j]?=some u->w.cell? ⟨g,o+j,none⟩=some u
def LG(S:Nat->Prop)(w:WD):List α->Nat->Nat->Prop
 |[],_,_=>True
 |x::r,g,o=>EG C S w x g o/\LG S w r g (o+sz)
def SG(S:Nat->Prop)(w:WD)(v:Av)(xs:List α):Prop:=∃(a:Option Addr) (cap:Nat),v=.slice a xs.length cap/\(xs.length<=cap/\xs.length<=2097152)/\(xs≠[]->∃g o,a=some ⟨g,o,none⟩/\LG C sz S w xs g o)
def jC(S:Nat->Prop)(w:WD):List α->List Av->Prop
 |[],cs=>cs=[]
 |x::r,cs=>∃c rest,cs=c++rest/\C S w x c/\jC S w r rest
def MG(T:TypeId)(base:Nat)(w:WD)(v:Av)(xs:List α):Prop:=∃cs,w.ownsRow base T sz v xs.length cs/\jC C (DZ base w v) w xs cs
end
section
variable {α:Type} {C:wV α} {sz:Nat} {S S':Nat->Prop} {w w':WD}
theorem EG.keep(hF:Fair C)(hS:∀g,S g->S' g)(hw:∀g,S g->w'.heap[g]?=w.heap[g]?){x:α}{g o:Nat}(h:EG C S w x g o):EG C S' w' x g o:=by obtain⟨h0,cs,h1,h2⟩:=h;exact⟨hS g h0,cs,hF _ _ _ _ _ _ hS hw h1,fun j u hu=>by rw[World.cell?_of_block (w:=w) (hw g h0)];exact h2 j u hu⟩
theorem LG.keep(hF:Fair C)(hS:∀g,S g->S' g)(hw:∀g,S g->w'.heap[g]?=w.heap[g]?):∀(l:List α) (g o:Nat),LG C sz S w l g o->LG C sz S' w' l g o
 |[],_,_,_=>by simp[LG]
 |_::r,g,o,h=>⟨h.1.keep hF hS hw,LG.keep hF hS hw r g (o+sz) h.2⟩
theorem SG.keep(hF:Fair C){v:Av}{xs:List α}(h:SG C sz S w v xs)(hS:∀g,S g->S' g)(hw:∀g,S g->w'.heap[g]?=w.heap[g]?):SG C sz S' w' v xs:=by obtain⟨a,cap,h1,hc,h2⟩:=h;refine⟨a,cap,h1,hc,fun hn=>?_⟩;obtain⟨g,o,h3,h4⟩:=h2 hn;exact⟨g,o,h3,h4.keep hF hS hw⟩
theorem SG.below(hF:Fair C){B B':Nat}{v:Av}{xs:List α}(h:SG C sz (fun b=>b<B) w v xs)(hb:Below B' w w')(hB:B<=B'):SG C sz (fun b=>b<B) w' v xs:=h.keep hF (fun _ hg=>hg) fun g hg=>hb.block g (Nat.lt_of_lt_of_le hg hB)
theorem SG.mono(hF:Fair C){B B':Nat}{v:Av}{xs:List α}(h:SG C sz (fun b=>b<B) w v xs)(hB:B<=B'):SG C sz (fun b=>b<B') w v xs:=h.keep hF (fun _ hg=>Nat.lt_of_lt_of_le hg hB) fun _ _=>rfl
theorem SG.iE(C:wV α)(sz:Nat)(S:Nat->Prop)(w:WD)(a:Option Addr)(c:Nat):SG C sz S w (.slice a 0 c) []:=⟨a,c,rfl,⟨by simp,by simp⟩,fun h=>absurd rfl h⟩
theorem SG.len{v:Av}{xs:List α}(h:SG C sz S w v xs):xs.length<=2097152:=by obtain⟨_,_,_,hc,_⟩:=h;exact hc.2
theorem SG.form{v:Av}{xs:List α}(h:SG C sz S w v xs):∃a cap,v=.slice a xs.length cap:=by obtain⟨a,cap,h1,_⟩:=h;exact⟨a,cap,h1⟩
theorem SG.here{a:Option Addr}{n cap:Nat}{xs:List α}(h:SG C sz S w (.slice a n cap) xs)(hn:xs≠[]):∃g o,a=some ⟨g,o,none⟩/\LG C sz S w xs g o/\xs.length<=cap:=by obtain⟨a',cap',h1,⟨hc,h6⟩,h2⟩:=h;cases h1;obtain⟨g,o,rfl,h4⟩:=h2 hn;exact⟨g,o,rfl,h4,hc⟩
theorem LG.at:∀(l:List α) (g o i:Nat) (_:LG C sz S w l g o) (hi:i<l.length),EG C S w l[i] g (o+i*sz)
 |_::_,g,o,0,h,_=>by simpa using h.1
 |_::r,g,o,i+1,h,hi=>by have:=LG.at r g (o+sz) i h.2 (by simpa using hi);rw[show o+(i+1)*sz=o+sz+i*sz from by rw[Nat.add_mul];omega];simpa using this
theorem jC.keep(hF:Fair C)(hS:∀g,S g->S' g)(hw:∀g,S g->w'.heap[g]?=w.heap[g]?):∀(l:List α) (cs:List Av),jC C S w l cs->jC C S' w' l cs
 |[],_,h=>h
 |_::r,_,⟨c,rest,h1,h2,h3⟩=>⟨c,rest,h1,hF _ _ _ _ _ _ hS hw h2,jC.keep hF hS hw r rest h3⟩
theorem jC.snoc:∀(l:List α) (cs:List Av) (_:jC C S w l cs) (x:α) (c:List Av) (_:C S w x c),jC C S w (l++[x]) (cs++c)
 |[],cs,h,x,c,hc=>⟨c,[],by simp[show cs=[] from h],hc,rfl⟩
 |_::r,_,⟨c',rest,h1,h2,h3⟩,x,c,hc=>⟨c',rest++c,by simp[h1],h2,jC.snoc r rest h3 x c hc⟩
theorem jC.lies(hZ:ug C sz){g:Nat}(hg:S g):∀(l:List α) (cs:List Av) (o:Nat) (_:jC C S w l cs) (_:∀j u,cs[j]?=some u->w.cell? ⟨g,o+j,none⟩=some u),LG C sz S w l g o
 |[],_,_,_,_=>by simp[LG]
 |_::r,cs,o,⟨c,rest,h1,h2,h3⟩,hc=>by
  subst h1;have hl:=hZ _ _ _ _ h2;refine⟨⟨hg,c,h2,fun j u hu=>hc j u ?_⟩,jC.lies hZ hg r rest (o+sz) h3 fun j u hu=>?_⟩
  .have hj:j<c.length:=(List.getElem?_eq_some_iff.1 hu).1;rw[List.getElem?_append_left hj];exact hu
  .rw[show o+sz+j=o+(j+sz) from by omega];apply hc (j+sz) u
   rw[List.getElem?_append_right oo,hl];simpa using hu
theorem MG.nil(C:wV α)(sz:Nat)(T:TypeId)(base:Nat)(w:WD):MG C sz T base w (.slice none 0 0) []:=⟨[],World.ownsRow_nil _ _ _ _,rfl⟩
theorem MG.sl(hF:Fair C)(hZ:ug C sz){T:TypeId}{base:Nat}{v:Av}{l:List α}(h:MG C sz T base w v l)(h6:l.length<=2097152):SG C sz (oD base w) w v l:=by
 obtain⟨cs,h1,h2⟩:=h;have h3:jC C (oD base w) w l cs:=h2.keep hF (fun g hg=>⟨hg.1,hg.2.1⟩) (fun _ _=>rfl);rcases h1.2 with⟨rfl,hn⟩|⟨g,cap,cur,rfl,hbg,hg,hnc,hrest⟩
 .have:l=[]:=List.eq_nil_of_length_eq_zero hn;subst this;exact SG.iE _ _ _ _ _ _
 .refine⟨_,cap,rfl,⟨hnc,h6⟩,fun _=>⟨g,0,rfl,jC.lies hZ ⟨hbg,(Ay hg)⟩ l cs 0 h3 fun j u hu=>?_⟩⟩;have:=h1.cells (g:=g) rfl j u hu;rw[Addr.add_lit,Nat.zero_add]at this;rw[Nat.zero_add];exact this
theorem MG.lt{T:TypeId}{base:Nat}{v:Av}{l:List α}(h:MG C sz T base w v l):∀k,v.ownBlock=some k->base<=k/\k<w.heap.size:=by obtain⟨cs,h1,_⟩:=h;exact h1.lt
theorem MG.keep(hF:Fair C){T:TypeId}{base:Nat}{v:Av}{l:List α}(h:MG C sz T base w v l)(hs:w.heap.size<=w'.heap.size)(hw:∀g,base<=g->g<w.heap.size->w'.heap[g]?=w.heap[g]?):MG C sz T base w' v l:=by
 obtain⟨cs,h1,h2⟩:=h;refine⟨cs,⟨h1.1,?_⟩,h2.keep hF (fun g hg=>⟨hg.1,by have:=hg.2.1;omega,hg.2.2⟩) (fun g hg=>hw g hg.1 hg.2.1)⟩;rcases h1.2 with hn|⟨g,cap,cur,rfl,hbg,hgg,rest⟩
 .exact .inl hn
 .exact .inr ⟨g,cap,cur,rfl,hbg,by rw[hw g hbg (Ay hgg)];exact hgg,rest⟩
theorem MG.below(hF:Fair C){T:TypeId}{base:Nat}{v:Av}{l:List α}(h:MG C sz T base w v l)(hb:Below w.heap.size w w'):MG C sz T base w' v l:=h.keep hF hb.size fun g _ hg=>hb.block g hg
theorem MG.alloc(hF:Fair C){T:TypeId}{base:Nat}{v:Av}{l:List α}(h:MG C sz T base w v l)(o:Obj):MG C sz T base (w.alloc o) v l:=h.keep hF Ab fun g _ hg=>Below.heap_alloc _ _ _ hg
theorem MG.form{T:TypeId}{base:Nat}{v:Av}{l:List α}(h:MG C sz T base w v l):∃a cap,v=.slice a l.length cap:=by
 obtain⟨cs,h1,_⟩:=h;rcases h1.2 with⟨rfl,hn⟩|⟨g,cap,cur,rfl,_⟩
 .exact⟨none,0,by rw[hn]⟩
 .exact⟨_,_,rfl⟩
theorem MG.snoc(hF:Fair C){T:TypeId}{base:Nat}{v v2:Av}{l:List α}{cs c:List Av}{x:α}(h2:jC C (DZ base w v) w l cs)(hx:C (DZ base w v) w x c)
  (hown:w'.ownsRow base T sz v2 (l.length+1) (cs++c)) (hg:w.grownBy w' v.ownBlock) (hat:v2.ownBlock=v.ownBlock\/v2.ownBlock=some w.heap.size):MG C sz T base w' v2 (l++[x]):=by
 have hS:∀g,DZ base w v g->DZ base w' v2 g:=by
  rintro g ⟨h3,h4,h5⟩;refine⟨h3,Nat.lt_of_lt_of_le h4 hg.size,?_⟩;rcases hat with e|e
  .rw[e];exact h5
  .rw[e];intro e2;cases e2;omega
 have hw:∀g,DZ base w v g->w'.heap[g]?=w.heap[g]?:=fun g hgg=>hg.block g hgg.2.1 hgg.2.2;exact⟨_,by rw[List.length_append];exact hown,jC.snoc _ _ (h2.keep hF hS hw) x c (hF _ _ _ _ _ _ hS hw hx)⟩
theorem MG.apart{β:Type}{D:wV β}{T:TypeId}{base:Nat}{w3 W:WD}{v:Av}{l:List α}{x:β}{c:List Av}(h:MG C sz T base w v l)(hF:Fair D)(hx:D (oD w.heap.size w3) w3 x c)(hbase:base<=w.heap.size)(hs:w3.heap.size<=W.heap.size)(hw:∀g,g<w3.heap.size->W.heap[g]?=w3.heap[g]?):D (DZ base W v) W x c:=hF _ _ _ _ _ _ (fun g hg=>⟨by have:=hg.1;omega,by have:=hg.2;omega,fun e=>by have:=(h.lt g e.symm).2;have:=hg.1;omega⟩) (fun g hg=>hw g hg.2) hx
end
def One{α:Type}(C:wV α)(sz:Nat):wV (List α):=fun S w x cs=>∃v,cs=[v]/\SG C sz S w v x
theorem One.fair{α:Type}{C:wV α}{sz:Nat}(hF:Fair C):Fair (One C sz):=by rintro S S' w w' x cs hS hw ⟨v,h1,h2⟩;exact⟨v,h1,h2.keep hF hS hw⟩
theorem One.sized{α:Type}(C:wV α)(sz:Nat):ug (One C sz) 1:=by rintro S w x cs ⟨v,rfl,_⟩;rfl
end
section
attribute [local go_sem] bI bJ aX aY
def CB(t:Tok):Bool:=decide (t.kind=4)||au t (b1 46)||au t (b1 91)||au t (b1 58)
theorem Ld(B b:Nat)(sv:Av)(l:List Nd)(w:WD)(h:fV B w b sv l):
  Calls prog 256 #[.pointer (some ⟨b,0,none⟩)] w fun e w'=>e=.returned (.bool (CB (hdN l).t))/\Below w.heap.size w w':=by
 have R1:=hid h;clear h;obtain⟨n,Hn⟩:=Nm (hdN l);rw[Hn.o];go_in;go_wp2_with fail;refine(Hg B b sv l _ R1.o).mono ?_;rw[Hn.o];rintro e w1 ⟨kv,rfl,hk,hb1⟩;have B1:=hid hb1;obtain⟨ka,kc,rfl⟩:=hk.form;have hw1:=hb1.size;clear hk hb1;unfold fB;have A2:Hid (VB (w1.alloc (.cells #[.int .i64 n.t.kind,.string n.t.word,.string n.t.unit,.slice ka n.kids.length kc] 199)) w1.heap.size (.int .i64 n.t.kind) (.string n.t.word) (.string n.t.unit) (.slice ka n.kids.length kc)):=VB.new _ _ _ _ _;have B2:Hid (Below w.heap.size w (w1.alloc (.cells #[.int .i64 n.t.kind,.string n.t.word,.string n.t.unit,.slice ka n.kids.length kc] 199))):=B1.o.alloc hw1 _;go_upto_region 2 with fail
 generalize w1.alloc (.cells #[.int .i64 n.t.kind,.string n.t.word,.string n.t.unit,.slice ka n.kids.length kc] 199)=w2 at *;generalize w1.heap.size=gt at *;obtain⟨a0,a1,a2,a3⟩:=A2.o.cs;have hs2:=B2.o.size;cases hk4:(n.t.kind==4)
 .have n4:¬n.t.kind=4:=by simpa using hk4
  go_wp2_with fail;refine pmb (jf n.t _ (b1 46) _) fun w3 hb3=>?_;have B3:=hid (B2.o.trans (hb3.mono hs2));have A3:=hid (A2.o.below hb3);have hs3:=B3.o.size;clear hb3 a0 a1 a2 a3;obtain⟨a0,a1,a2,a3⟩:=A3.o.cs;obtain⟨s1,Az⟩:=Nm (au n.t (b1 46));rw[Az.o];cases s1
  .go_wp2_with fail;refine pmb (jf n.t _ (b1 91) _) fun w4 hb4=>?_;have B4:=hid (B3.o.trans (hb4.mono hs3));have A4:=hid (A3.o.below hb4);have hs4:=B4.o.size;clear hb4 a0 a1 a2 a3;obtain⟨a0,a1,a2,a3⟩:=A4.o.cs;obtain⟨s2,Hs2⟩:=Nm (au n.t (b1 91));rw[Hs2.o];cases s2
   .go_wp2_with fail;refine pmb (jf n.t _ (b1 58) _) fun w5 hb5=>?_;have B5:=hid (B4.o.trans (hb5.mono hs4));have HV:Hid (CB n.t=au n.t (b1 58)):=by show _=_;unfold CB;rw[decide_eq_false n4,Az.o,Hs2.o];rfl
    clear hb5;go_wp2_with fail;go_ret;exact⟨aC HV.o.symm,B5.o⟩
   .have HV:Hid (CB n.t=true):=by show _=_;unfold CB;rw[Hs2.o];simp
    go_wp2_with fail;go_ret;exact⟨aC HV.o.symm,B4.o⟩
  .have HV:Hid (CB n.t=true):=by show _=_;unfold CB;rw[Az.o];simp
   go_wp2_with fail;go_ret;exact⟨aC HV.o.symm,B3.o⟩
 .have n4:n.t.kind=4:=by simpa using hk4
  have HV:Hid (CB n.t=true):=by show _=_;unfold CB;rw[decide_eq_true n4];rfl
  clear n4;go_wp2_with fail;go_ret;exact⟨aC HV.o.symm,B2.o⟩
def fE(k:Nat)(nm h v:BY)(lv:Av)(p:Nat):Av:=
 if k=116 then(if nm=aA then .iface 311 (.agg #[]) else .iface 309 (.agg #[.string nm]))
 else if k=35 then .iface 332 (.agg #[.string nm])
 else if k=46 then .iface 333 (.agg #[.string nm])
 else if k=91 then .iface 341 (.agg #[.string nm,.string h,.string v])
 else if nm=nD then .iface 345 (.agg #[lv])
 else if nm=DY then .iface 346 (.agg #[lv])
 else if nm=nG then .iface 351 (if p=0 then .agg #[.string sZ,.int .i64 0] else if p=1 then .agg #[.string l7,.int .i64 0] else .agg #[.string aA,.int .i64 ((p-2:Nat):Int)])
 else .iface 343 (.agg #[.string nm])
def fO(C:wV Simple):wV Step:=fun S w x cs=>∃av,cs=[.int .i64 (sG x.1),av]/\SG C 1 S w av x.2
def AA(C:wV Simple):wV (List Step):=One (fO C) 2
def aQ:Nat->wV Simple
 |0=>fun _ _ s cs=>match s with|.mk k nm h v l p=>l=[]/\∃a c,cs=[fE k nm h v (.slice a 0 c) p]
 |n+1=>fun S w s cs=>match s with|.mk k nm h v l p=>∃lv,cs=[fE k nm h v lv p]/\SG (AA (aQ n)) 1 S w lv l
theorem fO.fair{C:wV Simple}(hF:Fair C):Fair (fO C):=by rintro S S' w w' x cs hS hw ⟨av,h1,h2⟩;exact⟨av,h1,h2.keep hF hS hw⟩
theorem aQ.fair:∀n,Fair (aQ n)
 |0=>by rintro S S' w w' ⟨k,nm,h,v,l,p⟩ cs _ _ hx;exact hx
 |n+1=>by rintro S S' w w' ⟨k,nm,h,v,l,p⟩ cs hS hw ⟨lv,h1,h2⟩;exact⟨lv,h1,h2.keep (One.fair (fO.fair (aQ.fair n))) hS hw⟩
theorem aQ.sized:∀n,ug (aQ n) 1
 |0=>by rintro S w ⟨k,nm,h,v,l,p⟩ cs ⟨_,a,c,rfl⟩;rfl
 |n+1=>by rintro S w ⟨k,nm,h,v,l,p⟩ cs ⟨lv,rfl,_⟩;rfl
theorem fO.sized(C:wV Simple):ug (fO C) 2:=by rintro S w x cs ⟨av,rfl,_⟩;rfl
theorem aQ.plain(n:Nat)(S:Nat->Prop)(w:WD)(k:Nat)(nm h v:BY)(p:Nat):aQ n S w (.mk k nm h v [] p) [fE k nm h v (.slice none 0 0) p]:=by
 cases n with
 |zero=>exact⟨rfl,_,_,rfl⟩
 |succ n=>exact⟨_,rfl,SG.iE _ _ _ _ _ _⟩
end
