import Derived.Test.YtlliliddljkbfaaGreatDoorC9
import Derived.Test.YtlliliddljkbfaaGreatDoorC11
import Derived.Deep.QuietTactic
import Derived.BigQuiet
import Derived.Deep.RegionHeld3
namespace Go.Proofs.YtlliliddljkbfaaGreatDoor
set_option maxHeartbeats 64000000
set_option maxRecDepth 100000
open Go.Proofs.Tryz (prog)
open Go.RowKit Sp
def Cm(s:ByteArray)(i:Nat):Bool:=bn s i (bt s i)&&!(i==0&&(bt s i==101||bt s i==69))
theorem Zd(s:ByteArray)(i b:Nat)(w:World)(hi:i<s.size)(hs:s.size<=4000000)(hb:nY w b (.string s) 9):
  Calls prog 295 #[.int .i64 (i:Int),.pointer (some ⟨b,0,none⟩)] w fun e w'=>e=.returned (.bool (Cm s i))/\Below w.heap.size w w':=by
 have c0:=hb.c;have hix:=aV s i hi;rw[qg hi]at hix;have h0:(i:Int)<(s.size:Int):=oo;have HU:Hid (Cm s i=(bn s i (bt s i)&&!(i==0&&(((bt s i).toNat:Int)==101||((bt s i).toNat:Int)==69)))):=by show _=_;unfold Cm;rw[show(bt s i==101)=(((bt s i).toNat:Int)==101) from qW _ 101 oo,show(bt s i==69)=(((bt s i).toNat:Int)==69) from qW _ 69 oo]
 obtain⟨z,Hz⟩:∃z,Hid (bn s i (bt s i)=z):=⟨_,hid rfl⟩;rw[Hz.o]at HU;have hpn:=Cj s i w hi hs;rw[Hz.o]at hpn;have HPN:Hid (Calls prog 243 #[.string s,.int .i64 (i:Int)] w fun e w'=>e=.returned (.bool z)/\w'=w):=hpn;clear hpn hb;obtain⟨c,Hc⟩:∃c,Hid (((bt s i).toNat:Int)=c):=⟨_,hid rfl⟩;rw[Hc.o]at HU hix;cases z
 .have HV:Hid (Cm s i=false):=HU.o;go_in;go_wp2_with fail;refine HPN.o.mono ?_;rintro e wq ⟨rfl,hwq⟩;rw[hwq];go_wp2_with fail;go_ret;exact⟨aI HV.o.symm,Below.refl _ _⟩
 .by_cases h1:i=0
  .subst h1;have HV:Hid (Cm s 0=(((s[0]'hi).toNat:Int) != 101&&((s[0]'hi).toNat:Int) != 69)):=by
    show _=_;rw[HU.o,<-Hc.o,xG hi];cases h2:(((s[0]'hi).toNat:Int)==101)<;>cases h3:(((s[0]'hi).toNat:Int)==69)<;>simp[bne,h2,h3]
   clear HU Hc hix;go_in;go_wp2_with fail;refine HPN.o.mono ?_;rintro e wq ⟨rfl,hwq⟩;rw[hwq];go_wp2_with fail;all_goals
    go_ret;first|exact⟨aI HV.o.symm,Below.refl _ _⟩|exact⟨aI (by rw[HV.o];simp[*]),Below.refl _ _⟩
  .have h1':(0:Int)<(i:Int):=oo;have h1d:decide ((0:Int)<(i:Int))=true:=decide_eq_true h1';have h1b:(i==0)=false:=by simpa using h1
   have HV:Hid (Cm s i=true):=by show _=_;rw[HU.o,h1b];rfl
   clear h1 h1b HU;go_in;go_wp2_with fail;refine HPN.o.mono ?_;rintro e wq ⟨rfl,hwq⟩;rw[hwq];go_wp2_with fail;go_ret;exact⟨aI HV.o.symm,Below.refl _ _⟩
theorem aa5(s:ByteArray)(w:World)(hs:s.size<=4000000):Calls prog 268 #[.string s] w fun e w'=>e=.returned (.string (oJ s))/\Below w.heap.size w w':=by
 have hmf:=JI;have V1:Hid (nY (w.alloc (.cells #[.string s] 9)) w.heap.size (.string s) 9):=nY.new _ _ _;have B1:Hid (Below w.heap.size w (w.alloc (.cells #[.string s] 9))):=(Below.refl _ _).alloc nl _;have c0:=V1.o.c;have HV:Hid (oJ s=aB (kN (Cm s) s s.size)):=qh _ s;go_in;go_wp2_with fail;generalize w.alloc (.cells #[.string s] 9)=w2 at *;refine(sS s _ _ (Cm s) w2 hs (fun _ _=>rfl) ?_).mono ?_
 .intro i hi w' hb';exact Zd s i _ w' hi hs (V1.o.below hb' V1.o.lt)
 .rintro e wq ⟨rfl,hwq⟩;have B3:Hid (Below w.heap.size w wq):=B1.o.trans (hwq.mono B1.o.size);clear hwq;go_wp2_with fail;go_ret;exact⟨by rw[HV.o];rfl,B3.o⟩
theorem Ze(s:ByteArray)(w:World)(hs:s.size<=4000000):Calls prog 269 #[.string s] w fun e w'=>e=.returned (.string (tZ s))/\Below w.heap.size w w':=by
 have hmf:=JI;have V1:Hid (nY (w.alloc (.cells #[.string s] 9)) w.heap.size (.string s) 9):=nY.new _ _ _;have B1:Hid (Below w.heap.size w (w.alloc (.cells #[.string s] 9))):=(Below.refl _ _).alloc nl _;have c0:=V1.o.c;obtain⟨m,Hm⟩:∃m,Hid (aB (kN (fun i=>dQ (bt s i)) s s.size)=m):=⟨_,hid rfl⟩;have HV:Hid (tZ s=aB [⟨#[117,114,108,40]⟩,m,⟨#[41]⟩]):=by show _=_;unfold tZ;rw[qh,Hm.o];simp[aB,acE,b1]
 have hms:m.size<=16000000:=by rw[<-Hm.o,kE];have:=pG (fun i=>dQ (bt s i)) s s.size;omega
 go_in;go_wp2_with fail;generalize w.alloc (.cells #[.string s] 9)=w2 at *;refine(sS s _ _ (fun i=>dQ (bt s i)) w2 hs (fun _ _=>rfl) ?_).mono ?_
 .intro i hi w' hb';exact Zc s i _ w' hi (V1.o.below hb' V1.o.lt)
 .rw[Hm.o];rintro e wq ⟨rfl,hwq⟩;have B3:Hid (Below w.heap.size w wq):=B1.o.trans (hwq.mono B1.o.size);have hs3:=B3.o.size;clear hwq c0;go_wp2_with fail;refine pmb (eG [⟨#[117,114,108,40]⟩,m,⟨#[41]⟩] wq.heap.size _ _ (row3 wq ⟨#[117,114,108,40]⟩ m ⟨#[41]⟩) (by simp) (by show 4+(m.size+(1+0))<=_;omega)) fun w5 hb5=>?_;have B5:Hid (Below w.heap.size w w5):=(B3.o.alloc hs3 _).trans (hb5.mono (by simp;omega));clear hb5;go_wp2_with fail;go_ret;exact⟨by rw[HV.o];rfl,B5.o⟩
theorem qY(ok:Nat->UInt8->Bool):∀(l:List UInt8) (i:Nat),(qR ok i l).size<=4*l.length
 |[],i=>by show 0<=_;omega
 |c::r,i=>by
  unfold qR;rw[ByteArray.size_append];have:=qY ok r (i+1);have h2:(if ok i c=true then b1 c else ji c).size<=4:=by
   split
   .show 1<=4;omega
   .show 4<=4;omega
  simp only[List.length_cons];omega
theorem jH(s:ByteArray):s.data.toList.length=s.size:=Array.length_toList
theorem bZ(s:ByteArray):(bC s).size<=4*s.size:=by have:=qY (bn s) s.data.toList 0;rw[jH]at this;exact this
theorem yg(s:ByteArray):(oJ s).size<=4*s.size:=by have:=qY (fun i c=>bn s i c&&!(i==0&&(c==101||c==69))) s.data.toList 0;rw[jH]at this;exact this
theorem sU(s:ByteArray):(oK s).size<=4*s.size+2:=by have:=qY (fun _ c=>eF c) s.data.toList 0;rw[jH]at this;unfold oK;rw[ByteArray.size_append,ByteArray.size_append];show 1+(_+1)<=_;omega
theorem OU(s:ByteArray):(tZ s).size<=4*s.size+5:=by have:=qY (fun _ c=>dQ c) s.data.toList 0;rw[jH]at this;unfold tZ;rw[ByteArray.size_append,ByteArray.size_append];show 4+(_+1)<=_;omega
mutual
def GH:Nd->Nat
 |.mk t k=>4*t.word.size+4*t.unit.size+16+fB k
def fB:List Nd->Nat
 |[]=>0
 |n::r=>GH n+fB r
end
theorem sV(t:Tok):(closing t).size<=1:=by
 unfold closing;repeat' split
 all_goals decide
theorem Tm(t:Tok)(inn:ByteArray):(OL t inn).size<=4*t.word.size+4*t.unit.size+12+inn.size:=by
 have h1:=bZ t.word;have h2:=yg t.unit;have h3:=sU t.word;have h4:=OU t.word;have h5:=sV t;have e:∀(c:UInt8),(b1 c).size=1:=fun _=>rfl;unfold OL;by_cases k1:t.kind=1
 .rw[if_pos k1,e];omega
 rw[if_neg k1];by_cases k2:t.kind=2
 .rw[if_pos k2];omega
 rw[if_neg k2];by_cases k3:t.kind=3
 .rw[if_pos k3];show 2<=_;omega
 rw[if_neg k3];by_cases k4:t.kind=4
 .rw[if_pos k4,ByteArray.size_append];show 1+_<=_;omega
 rw[if_neg k4];by_cases k6:t.kind=6
 .rw[if_pos k6,ByteArray.size_append];show _+1<=_;omega
 rw[if_neg k6];by_cases k7:t.kind=7
 .rw[if_pos k7,ByteArray.size_append];omega
 rw[if_neg k7];by_cases k8:t.kind=8
 .rw[if_pos k8];show 4<=_;omega
 rw[if_neg k8];by_cases k9:t.kind=9
 .rw[if_pos k9];show 3<=_;omega
 rw[if_neg k9];by_cases k10:t.kind=10
 .rw[if_pos k10,ByteArray.size_append];show 1+_<=_;omega
 rw[if_neg k10];by_cases k11:t.kind=11
 .rw[if_pos k11,ByteArray.size_append,ByteArray.size_append,ByteArray.size_append];show _+(1+(_+1))<=_;omega
 rw[if_neg k11];by_cases k12:t.kind=12
 .rw[if_pos k12];omega
 rw[if_neg k12];by_cases k13:t.kind=13
 .rw[if_pos k13];show 6<=_;omega
 rw[if_neg k13];by_cases k14:t.kind=14
 .rw[if_pos k14];omega
 rw[if_neg k14];by_cases k15:t.kind=15
 .rw[if_pos k15,ByteArray.size_append,ByteArray.size_append];omega
 rw[if_neg k15];omega
mutual
theorem OV:∀(n:Nd),(iH n).size+4<=GH n
 |.mk t k=>by unfold iH GH;have:=Tm t (lQ none k);have:=yh none k;omega
theorem yh:∀(a:Option Tok) (l:List Nd),(lQ a l).size<=fB l
 |a,[]=>by unfold lQ;show 0<=_;omega
 |a,n::r=>by
  unfold lQ fB;have h1:=OV n;have h2:=yh (some n.t) r;have h3:(uy a n.t).size<=4:=by
   unfold uy;split
   .show 0<=4;omega
   .split
    .show 4<=4;omega
    .show 0<=4;omega
  rw[ByteArray.size_append];split
  .have:aA.size=0:=rfl;omega
  .rw[ByteArray.size_append];omega
end
section
attribute [local go_sem] dH dI bQ bT
theorem bI(w:World)(o:Obj):Below w.heap.size w (w.alloc o):=(Below.refl _ _).alloc nl _
theorem zN(t:Tok)(ka:Option Addr)(kl kc:Nat)(w:World):
  Calls prog 212 #[dM t (.slice ka kl kc)] w fun e w'=>e=.returned (.bool (decide (t.kind=1)))/\Below w.heap.size w w':=by
 unfold dM;have A2:Hid (VB (w.alloc (.cells #[.int .i64 t.kind,.string t.word,.string t.unit,.slice ka kl kc] 168)) w.heap.size (.int .i64 t.kind) (.string t.word) (.string t.unit) (.slice ka kl kc)):=VB.new _ _ _ _ _;have B2:Hid (Below w.heap.size w (w.alloc (.cells #[.int .i64 t.kind,.string t.word,.string t.unit,.slice ka kl kc] 168))):=bI _ _;obtain⟨a0,a1,a2,a3⟩:=A2.o.cs;have HV:Hid ((t.kind==1)=decide (t.kind=1)):=by show _=_;rw[Bool.eq_iff_iff];simp
 go_in;go_wp2_with fail;go_ret;exact⟨aI HV.o,B2.o⟩
def markT(t:Tok):Bool:=decide (t.kind=15)&&Vw t.word
theorem LH(t:Tok)(ka:Option Addr)(kl kc:Nat)(w:World):
  Calls prog 266 #[dM t (.slice ka kl kc)] w fun e w'=>e=.returned (.bool (markT t))/\Below w.heap.size w w':=by
 unfold dM;have A2:Hid (VB (w.alloc (.cells #[.int .i64 t.kind,.string t.word,.string t.unit,.slice ka kl kc] 168)) w.heap.size (.int .i64 t.kind) (.string t.word) (.string t.unit) (.slice ka kl kc)):=VB.new _ _ _ _ _;have B2:Hid (Below w.heap.size w (w.alloc (.cells #[.int .i64 t.kind,.string t.word,.string t.unit,.slice ka kl kc] 168))):=bI _ _;obtain⟨a0,a1,a2,a3⟩:=A2.o.cs;have HM:Hid (markT t=(decide (t.kind=15)&&(decide (t.word=b1 44)||decide (t.word=b1 58)||decide (t.word=b1 59)||decide (t.word=b1 41)||decide (t.word=b1 93)||decide (t.word=b1 125)))):=rfl;have e1:(t.word.toList==[44])=decide (t.word=b1 44):=aH _ _;have e2:(t.word.toList==[58])=decide (t.word=b1 58):=aH _ _;have e3:(t.word.toList==[59])=decide (t.word=b1 59):=aH _ _;have e4:(t.word.toList==[41])=decide (t.word=b1 41):=aH _ _
 have e5:(t.word.toList==[93])=decide (t.word=b1 93):=aH _ _;have e6:(t.word.toList==[125])=decide (t.word=b1 125):=aH _ _;cases hk:(t.kind==15)
 .have hk':¬t.kind=15:=by simpa using hk
  have HV:Hid (markT t=false):=by show _=_;rw[HM.o,decide_eq_false hk'];rfl
  clear hk';go_in;go_wp2_with fail;go_ret;exact⟨aI HV.o.symm,B2.o⟩
 .have hk':t.kind=15:=by simpa using hk
  have HV:Hid (markT t=(decide (t.word=b1 44)||decide (t.word=b1 58)||decide (t.word=b1 59)||decide (t.word=b1 41)||decide (t.word=b1 93)||decide (t.word=b1 125))):=by show _=_;rw[HM.o,decide_eq_true hk'];rfl
  clear hk' HM;generalize decide (t.word=b1 44)=x1 at *;generalize decide (t.word=b1 58)=x2 at *;generalize decide (t.word=b1 59)=x3 at *;generalize decide (t.word=b1 41)=x4 at *;generalize decide (t.word=b1 93)=x5 at *;generalize decide (t.word=b1 125)=x6 at *;cases x1
  .cases x2
   .cases x3
    .cases x4
     .cases x5
      .cases x6
       .go_in;go_wp2_with fail;go_ret;exact⟨aI HV.o.symm,B2.o⟩
       .go_in;go_wp2_with fail;go_ret;exact⟨aI HV.o.symm,B2.o⟩
      .go_in;go_wp2_with fail;go_ret;exact⟨aI HV.o.symm,B2.o⟩
     .go_in;go_wp2_with fail;go_ret;exact⟨aI HV.o.symm,B2.o⟩
    .go_in;go_wp2_with fail;go_ret;exact⟨aI HV.o.symm,B2.o⟩
   .go_in;go_wp2_with fail;go_ret;exact⟨aI HV.o.symm,B2.o⟩
  .go_in;go_wp2_with fail;go_ret;exact⟨aI HV.o.symm,B2.o⟩
def zO(t:Tok):Bool:=decide (t.kind=1)||!decide (closing t=aA)||markT t
def xH(t:Tok):Bool:=decide (t.kind=1)||ay t (b1 91)||ay t (b1 123)||markT t
theorem parts_eq(a b:Tok):parts a b=(!zO a&&!xH b):=by unfold parts zO xH;rw[show uf a=(decide (a.kind=1)||markT a) from rfl,show uf b=(decide (b.kind=1)||markT b) from rfl];cases decide (a.kind=1)<;>cases decide (b.kind=1)<;>cases markT a<;>cases markT b<;>cases decide (closing a=aA)<;>cases ay b (b1 91)<;>cases ay b (b1 123)<;>rfl
theorem CG(t:Tok)(ka:Option Addr)(kl kc:Nat)(w:World):
  Calls prog 213 #[dM t (.slice ka kl kc)] w fun e w'=>e=.returned (.bool (zO t))/\Below w.heap.size w w':=by
 have hu:dM t (.slice ka kl kc)=.agg #[.int .i64 t.kind,.string t.word,.string t.unit,.slice ka kl kc]:=rfl;rw[hu];have A2:Hid (VB (w.alloc (.cells #[.int .i64 t.kind,.string t.word,.string t.unit,.slice ka kl kc] 168)) w.heap.size (.int .i64 t.kind) (.string t.word) (.string t.unit) (.slice ka kl kc)):=VB.new _ _ _ _ _;have B2:Hid (Below w.heap.size w (w.alloc (.cells #[.int .i64 t.kind,.string t.word,.string t.unit,.slice ka kl kc] 168))):=bI _ _;obtain⟨a0,a1,a2,a3⟩:=A2.o.cs;obtain⟨x1,H1⟩:∃x,Hid (decide (t.kind=1)=x):=⟨_,hid rfl⟩;obtain⟨x2,H2⟩:∃x,Hid (decide (closing t=aA)=x):=⟨_,hid rfl⟩;have HE:Hid (zO t=(x1||!x2||markT t)):=by show _=_;unfold zO;rw[H1.o,H2.o]
 go_in;go_wp2_with fail;generalize w.alloc (.cells #[.int .i64 t.kind,.string t.word,.string t.unit,.slice ka kl kc] 168)=w2 at *;refine(zN t ka kl kc _).mono ?_;rw[H1.o];rintro e w3 ⟨rfl,hb3⟩;have B3:Hid (Below w.heap.size w w3):=B2.o.trans (hb3.mono B2.o.size);have A3:Hid (VB w3 w.heap.size (.int .i64 t.kind) (.string t.word) (.string t.unit) (.slice ka kl kc)):=A2.o.below hb3;clear hb3 a0 a1 a2 a3;obtain⟨a0,a1,a2,a3⟩:=A3.o.cs;cases x1
 .go_wp2_with fail;refine pmb (Ed t _) fun w4 hb4=>?_;have B4:Hid (Below w.heap.size w w4):=B3.o.trans (hb4.mono B3.o.size);have A4:Hid (VB w4 w.heap.size (.int .i64 t.kind) (.string t.word) (.string t.unit) (.slice ka kl kc)):=A3.o.below hb4;clear hb4 a0 a1 a2 a3;obtain⟨a0,a1,a2,a3⟩:=A4.o.cs;have e1:((closing t).toList==[])=x2:=by rw[<-H2.o];exact aH _ _
  by_cases he:(closing t).toList=[]
  .have HV:Hid (zO t=markT t):=by show _=_;rw[HE.o,<-e1,he];rfl
   clear e1;go_wp2_with fail;refine pmb (LH t ka kl kc _) fun w5 hb5=>?_;have B5:Hid (Below w.heap.size w w5):=B4.o.trans (hb5.mono B4.o.size);clear hb5;go_wp2_with fail;go_ret;exact⟨aI HV.o.symm,B5.o⟩
  .have HV:Hid (zO t=true):=by show _=_;rw[HE.o,<-e1,show((closing t).toList==[])=false from by cases hq:(closing t).toList with|nil=>exact absurd hq he|cons _ _=>rfl];rfl
   clear e1;go_wp2_with fail;go_ret;exact⟨aI HV.o.symm,B4.o⟩
 .have HV:Hid (zO t=true):=HE.o;go_wp2_with fail;go_ret;exact⟨aI HV.o.symm,B3.o⟩
theorem xI(t:Tok)(ka:Option Addr)(kl kc:Nat)(w:World):
  Calls prog 214 #[dM t (.slice ka kl kc)] w fun e w'=>e=.returned (.bool (xH t))/\Below w.heap.size w w':=by
 have hu:dM t (.slice ka kl kc)=.agg #[.int .i64 t.kind,.string t.word,.string t.unit,.slice ka kl kc]:=rfl;rw[hu];have A2:Hid (VB (w.alloc (.cells #[.int .i64 t.kind,.string t.word,.string t.unit,.slice ka kl kc] 168)) w.heap.size (.int .i64 t.kind) (.string t.word) (.string t.unit) (.slice ka kl kc)):=VB.new _ _ _ _ _;have B2:Hid (Below w.heap.size w (w.alloc (.cells #[.int .i64 t.kind,.string t.word,.string t.unit,.slice ka kl kc] 168))):=bI _ _;obtain⟨a0,a1,a2,a3⟩:=A2.o.cs;obtain⟨x1,H1⟩:∃x,Hid (decide (t.kind=1)=x):=⟨_,hid rfl⟩;obtain⟨x2,H2⟩:∃x,Hid (ay t (b1 91)=x):=⟨_,hid rfl⟩;obtain⟨x3,H3⟩:∃x,Hid (ay t (b1 123)=x):=⟨_,hid rfl⟩;have HE:Hid (xH t=(x1||x2||x3||markT t)):=by show _=_;unfold xH;rw[H1.o,H2.o,H3.o]
 go_in;go_wp2_with fail;generalize w.alloc (.cells #[.int .i64 t.kind,.string t.word,.string t.unit,.slice ka kl kc] 168)=w2 at *;refine(zN t ka kl kc _).mono ?_;rw[H1.o];rintro e w3 ⟨rfl,hb3⟩;have B3:Hid (Below w.heap.size w w3):=B2.o.trans (hb3.mono B2.o.size);have A3:Hid (VB w3 w.heap.size (.int .i64 t.kind) (.string t.word) (.string t.unit) (.slice ka kl kc)):=A2.o.below hb3;clear hb3 a0 a1 a2 a3;obtain⟨a0,a1,a2,a3⟩:=A3.o.cs;cases x1
 .go_wp2_with fail;refine(jU t _ (b1 91) _).mono ?_;rw[H2.o];rintro e w4 ⟨rfl,hb4⟩;have B4:Hid (Below w.heap.size w w4):=B3.o.trans (hb4.mono B3.o.size);have A4:Hid (VB w4 w.heap.size (.int .i64 t.kind) (.string t.word) (.string t.unit) (.slice ka kl kc)):=A3.o.below hb4;clear hb4 a0 a1 a2 a3;obtain⟨a0,a1,a2,a3⟩:=A4.o.cs;cases x2
  .go_wp2_with fail;refine(jU t _ (b1 123) _).mono ?_;rw[H3.o];rintro e w5 ⟨rfl,hb5⟩;have B5:Hid (Below w.heap.size w w5):=B4.o.trans (hb5.mono B4.o.size);have A5:Hid (VB w5 w.heap.size (.int .i64 t.kind) (.string t.word) (.string t.unit) (.slice ka kl kc)):=A4.o.below hb5;clear hb5 a0 a1 a2 a3;obtain⟨a0,a1,a2,a3⟩:=A5.o.cs;cases x3
   .have HV:Hid (xH t=markT t):=HE.o;go_wp2_with fail;refine pmb (LH t ka kl kc _) fun w6 hb6=>?_;have B6:Hid (Below w.heap.size w w6):=B5.o.trans (hb6.mono B5.o.size);clear hb6;go_wp2_with fail;go_ret;exact⟨aI HV.o.symm,B6.o⟩
   .have HV:Hid (xH t=true):=HE.o;go_wp2_with fail;go_ret;exact⟨aI HV.o.symm,B5.o⟩
  .have HV:Hid (xH t=true):=HE.o;go_wp2_with fail;go_ret;exact⟨aI HV.o.symm,B4.o⟩
 .have HV:Hid (xH t=true):=HE.o;go_wp2_with fail;go_ret;exact⟨aI HV.o.symm,B3.o⟩
end
section
attribute [local go_sem] dH dI bQ bT
theorem Zf(w:World)(a b:ByteArray):(w.alloc (.cells #[.string a,.string b] 9)).ownsRow w.heap.size 9 1 (.slice (some ⟨w.heap.size,0,none⟩) 2 2) 2 ([a,b].map Value.string):=⟨rfl,.inr ⟨w.heap.size,2,_,rfl,Nat.le_refl _,heap_alloc_new w _,Nat.le_refl _,by unfold maxLen;omega,rfl,rfl⟩⟩
theorem iW{a b:ByteArray}(h:a=b):Ending.returned (.string a)=Ending.returned (.string b):=by rw[h]
theorem nN(w:World)(o:Obj):Below w.heap.size w ((w.alloc o).drew):=((Below.refl _ _).alloc nl _).drew
theorem VB.drew{w:World}{b:Nat}{x0 x1 x2 x3:Value}(h:VB w b x0 x1 x2 x3):VB w.drew b x0 x1 x2 x3:=h
section
variable (wd un:ByteArray) (ka:Option Addr) (kl kc:Nat) (w:World)
theorem acQ:Calls prog 215 #[.agg #[.int .i64 1,.string wd,.string un,.slice ka kl kc]] w fun e w'=>e=.returned (.string (b1 32))/\Below w.heap.size w w':=by have B2:Hid (Below w.heap.size w (w.alloc (.cells #[.int .i64 1,.string wd,.string un,.slice ka kl kc] 168))):=bI _ _;go_in;go_wp2_with fail;go_ret;exact⟨rfl,B2.o⟩
theorem acR:Calls prog 215 #[.agg #[.int .i64 3,.string wd,.string un,.slice ka kl kc]] w fun e w'=>e=.returned (.string (Vt))/\Below w.heap.size w w':=by have B2:Hid (Below w.heap.size w (w.alloc (.cells #[.int .i64 3,.string wd,.string un,.slice ka kl kc] 168))):=bI _ _;go_in;go_wp2_with fail;go_ret;exact⟨rfl,B2.o⟩
theorem acS:Calls prog 215 #[.agg #[.int .i64 8,.string wd,.string un,.slice ka kl kc]] w fun e w'=>e=.returned (.string (Vs))/\Below w.heap.size w w':=by have B2:Hid (Below w.heap.size w (w.alloc (.cells #[.int .i64 8,.string wd,.string un,.slice ka kl kc] 168))):=bI _ _;go_in;go_wp2_with fail;go_ret;exact⟨rfl,B2.o⟩
theorem acT:Calls prog 215 #[.agg #[.int .i64 9,.string wd,.string un,.slice ka kl kc]] w fun e w'=>e=.returned (.string (OJ))/\Below w.heap.size w w':=by have B2:Hid (Below w.heap.size w (w.alloc (.cells #[.int .i64 9,.string wd,.string un,.slice ka kl kc] 168))):=bI _ _;go_in;go_wp2_with fail;go_ret;exact⟨rfl,B2.o⟩
theorem aa6:Calls prog 215 #[.agg #[.int .i64 13,.string wd,.string un,.slice ka kl kc]] w fun e w'=>e=.returned (.string (Vu))/\Below w.heap.size w w':=by have B2:Hid (Below w.heap.size w (w.alloc (.cells #[.int .i64 13,.string wd,.string un,.slice ka kl kc] 168))):=bI _ _;go_in;go_wp2_with fail;go_ret;exact⟨rfl,B2.o⟩
theorem acU(k:Int)(h1:(k==1)=false)(h2:(k==2)=false)(h3:(k==3)=false)(h4:(k==4)=false)(h6:(k==6)=false)(h7:(k==7)=false)(h8:(k==8)=false)(h9:(k==9)=false)(h10:(k==10)=false)(h11:(k==11)=false)(h12:(k==12)=false)(h13:(k==13)=false)(h14:(k==14)=false)(h15:(k==15)=false):Calls prog 215 #[.agg #[.int .i64 k,.string wd,.string un,.slice ka kl kc]] w fun e w'=>e=.returned (.string wd)/\Below w.heap.size w w':=by have B2:Hid (Below w.heap.size w (w.alloc (.cells #[.int .i64 k,.string wd,.string un,.slice ka kl kc] 168))):=bI _ _;go_in;go_wp2_with fail;go_ret;exact⟨rfl,B2.o⟩
theorem acV(hw:wd.size<=4000000):Calls prog 215 #[.agg #[.int .i64 2,.string wd,.string un,.slice ka kl kc]] w fun e w'=>e=.returned (.string (oK wd))/\Below w.heap.size w w':=by have B2:Hid (Below w.heap.size w (w.alloc (.cells #[.int .i64 2,.string wd,.string un,.slice ka kl kc] 168))):=bI _ _;go_in;go_wp2_with fail;generalize w.alloc (.cells #[.int .i64 2,.string wd,.string un,.slice ka kl kc] 168)=w2 at *;have hs2:=B2.o.size;refine pmb (VW wd _ hw) fun w3 hb3=>?_;have B3:Hid (Below w.heap.size w w3):=B2.o.trans (hb3.mono hs2);clear hb3;go_wp2_with fail;go_ret;exact⟨rfl,B3.o⟩
theorem aa7(hw:wd.size<=4000000):Calls prog 215 #[.agg #[.int .i64 12,.string wd,.string un,.slice ka kl kc]] w fun e w'=>e=.returned (.string (tZ wd))/\Below w.heap.size w w':=by have B2:Hid (Below w.heap.size w (w.alloc (.cells #[.int .i64 12,.string wd,.string un,.slice ka kl kc] 168))):=bI _ _;go_in;go_wp2_with fail;generalize w.alloc (.cells #[.int .i64 12,.string wd,.string un,.slice ka kl kc] 168)=w2 at *;have hs2:=B2.o.size;refine pmb (Ze wd _ hw) fun w3 hb3=>?_;have B3:Hid (Below w.heap.size w w3):=B2.o.trans (hb3.mono hs2);clear hb3;go_wp2_with fail;go_ret;exact⟨rfl,B3.o⟩
theorem aa8(hw:wd.size<=4000000):Calls prog 215 #[.agg #[.int .i64 14,.string wd,.string un,.slice ka kl kc]] w fun e w'=>e=.returned (.string (bC wd))/\Below w.heap.size w w':=by have B2:Hid (Below w.heap.size w (w.alloc (.cells #[.int .i64 14,.string wd,.string un,.slice ka kl kc] 168))):=bI _ _;go_in;go_wp2_with fail;generalize w.alloc (.cells #[.int .i64 14,.string wd,.string un,.slice ka kl kc] 168)=w2 at *;have hs2:=B2.o.size;refine pmb (oC wd _ hw) fun w3 hb3=>?_;have B3:Hid (Below w.heap.size w w3):=B2.o.trans (hb3.mono hs2);clear hb3;go_wp2_with fail;go_ret;exact⟨rfl,B3.o⟩
theorem acW(hw:wd.size<=4000000):Calls prog 215 #[.agg #[.int .i64 4,.string wd,.string un,.slice ka kl kc]] w fun e w'=>e=.returned (.string (b1 35++bC wd))/\Below w.heap.size w w':=by
 have B2:Hid (Below w.heap.size w (w.alloc (.cells #[.int .i64 4,.string wd,.string un,.slice ka kl kc] 168))):=bI _ _;obtain⟨nm,iZ⟩:∃nm,Hid (bC wd=nm):=⟨_,hid rfl⟩;have HV:Hid (aB [⟨#[35]⟩,nm]=b1 35++bC wd):=by show _=_;rw[iZ.o];simp[aB,b1]
 have hsz:nm.size<=4*wd.size:=by rw[<-iZ.o];exact bZ wd
 go_in;go_wp2_with fail;generalize w.alloc (.cells #[.int .i64 4,.string wd,.string un,.slice ka kl kc] 168)=w2 at *;have hs2:=B2.o.size;refine(oC wd _ hw).mono ?_;rw[iZ.o];rintro e w3 ⟨rfl,hb3⟩;have B3:Hid (Below w.heap.size w w3):=B2.o.trans (hb3.mono hs2);have hs3:=B3.o.size;clear hb3;go_wp2_with fail;refine pmb (eG [⟨#[35]⟩,nm] w3.heap.size _ _ (Zf w3 ⟨#[35]⟩ nm) (by simp) (by show 1+(nm.size+0)<=_;omega)) fun w5 hb5=>?_;have B5:Hid (Below w.heap.size w w5):=(B3.o.alloc hs3 _).trans (hb5.mono (by simp;omega));clear hb5;go_wp2_with fail;go_ret;exact⟨iW HV.o,B5.o⟩
theorem aa9(hw:wd.size<=4000000):Calls prog 215 #[.agg #[.int .i64 10,.string wd,.string un,.slice ka kl kc]] w fun e w'=>e=.returned (.string (b1 64++bC wd))/\Below w.heap.size w w':=by
 have B2:Hid (Below w.heap.size w (w.alloc (.cells #[.int .i64 10,.string wd,.string un,.slice ka kl kc] 168))):=bI _ _;obtain⟨nm,iZ⟩:∃nm,Hid (bC wd=nm):=⟨_,hid rfl⟩;have HV:Hid (aB [⟨#[64]⟩,nm]=b1 64++bC wd):=by show _=_;rw[iZ.o];simp[aB,b1]
 have hsz:nm.size<=4*wd.size:=by rw[<-iZ.o];exact bZ wd
 go_in;go_wp2_with fail;generalize w.alloc (.cells #[.int .i64 10,.string wd,.string un,.slice ka kl kc] 168)=w2 at *;have hs2:=B2.o.size;refine(oC wd _ hw).mono ?_;rw[iZ.o];rintro e w3 ⟨rfl,hb3⟩;have B3:Hid (Below w.heap.size w w3):=B2.o.trans (hb3.mono hs2);have hs3:=B3.o.size;clear hb3;go_wp2_with fail;refine pmb (eG [⟨#[64]⟩,nm] w3.heap.size _ _ (Zf w3 ⟨#[64]⟩ nm) (by simp) (by show 1+(nm.size+0)<=_;omega)) fun w5 hb5=>?_;have B5:Hid (Below w.heap.size w w5):=(B3.o.alloc hs3 _).trans (hb5.mono (by simp;omega));clear hb5;go_wp2_with fail;go_ret;exact⟨iW HV.o,B5.o⟩
theorem acX(hw:wd.size<=4000000):Calls prog 215 #[.agg #[.int .i64 6,.string wd,.string un,.slice ka kl kc]] w fun e w'=>e=.returned (.string (wd++b1 37))/\Below w.heap.size w w':=by
 have B2:Hid (Below w.heap.size w (w.alloc (.cells #[.int .i64 6,.string wd,.string un,.slice ka kl kc] 168))):=bI _ _;have HV:Hid (aB [wd,⟨#[37]⟩]=wd++b1 37):=by show _=_;simp[aB,b1]
 have A2:Hid (VB (w.alloc (.cells #[.int .i64 6,.string wd,.string un,.slice ka kl kc] 168)) w.heap.size (.int .i64 6) (.string wd) (.string un) (.slice ka kl kc)):=VB.new _ _ _ _ _;go_in;go_upto_region 11 with fail
 generalize w.alloc (.cells #[.int .i64 6,.string wd,.string un,.slice ka kl kc] 168)=w2 at *;have hs2:=B2.o.size;obtain⟨a0,a1,a2,a3⟩:=A2.o.cs;go_wp2_with fail;refine pmb (eG [wd,⟨#[37]⟩] w2.heap.size _ _ (Zf w2 wd ⟨#[37]⟩) (by simp) (by show wd.size+(1+0)<=_;omega)) fun w5 hb5=>?_;have B5:Hid (Below w.heap.size w w5):=(B2.o.alloc hs2 _).trans (hb5.mono (by simp;omega));clear hb5;go_wp2_with fail;go_ret;exact⟨iW HV.o,B5.o⟩
theorem acY(hw:wd.size<=4000000)(hu:un.size<=4000000):Calls prog 215 #[.agg #[.int .i64 7,.string wd,.string un,.slice ka kl kc]] w fun e w'=>e=.returned (.string (wd++oJ un))/\Below w.heap.size w w':=by
 have B2:Hid (Below w.heap.size w (w.alloc (.cells #[.int .i64 7,.string wd,.string un,.slice ka kl kc] 168)).drew):=nN _ _;have A2:Hid (VB (w.alloc (.cells #[.int .i64 7,.string wd,.string un,.slice ka kl kc] 168)).drew w.heap.size (.int .i64 7) (.string wd) (.string un) (.slice ka kl kc)):=VB.new _ _ _ _ _;obtain⟨us,Hus⟩:∃us,Hid (oJ un=us):=⟨_,hid rfl⟩;have HV:Hid (aB [wd,us]=wd++oJ un):=by show _=_;rw[Hus.o];simp[aB]
 have hsz:us.size<=4*un.size:=by rw[<-Hus.o];exact yg un
 go_in;go_wp2_with fail;refine wp_region_any (by kernel_rfl) ?_;change wpAny _ _ _ _ _ _ _ (World.drew _);generalize(w.alloc (.cells #[.int .i64 7,.string wd,.string un,.slice ka kl kc] 168)).drew=w2 at *;have hs2:=B2.o.size;refine wpAny_of_held (S:=fun wx=>VB wx w.heap.size (.int .i64 7) (.string wd) (.string un) (.slice ka kl kc)) _ _ _ _ ?_;refine bY 0 rfl A2.o (by intro w hSw;obtain⟨a0,a1,a2,a3⟩:=hSw.cs;exact gs) ?_;refine bY 1 rfl A2.o (by intro w hSw;obtain⟨a0,a1,a2,a3⟩:=hSw.cs;exact gs) ?_;refine bY 2 rfl A2.o (by intro w hSw;obtain⟨a0,a1,a2,a3⟩:=hSw.cs;exact gs) ?_;refine bY 3 rfl A2.o (by intro w hSw;obtain⟨a0,a1,a2,a3⟩:=hSw.cs;exact gs) ?_
 refine bY 4 rfl A2.o (by intro w hSw;obtain⟨a0,a1,a2,a3⟩:=hSw.cs;exact gs) ?_;refine bY 5 rfl A2.o (by intro w hSw;obtain⟨a0,a1,a2,a3⟩:=hSw.cs;exact gs) ?_;refine jh 6 fun K hK=>?_;go_simp;refine(aa5 un _ hu).mono ?_;rw[Hus.o];rintro e w3 ⟨rfl,hb3⟩;have B3:Hid (Below w.heap.size w w3):=B2.o.trans (hb3.mono hs2);have A3:Hid (VB w3 w.heap.size (.int .i64 7) (.string wd) (.string un) (.slice ka kl kc)):=A2.o.below hb3;have hs3:=B3.o.size;clear hb3;refine hK.o _ _ A3.o (fun _=>?_);clear hK K;refine jh 7 fun K hK=>?_;go_simp;refine hK.o _ _ (A3.o.alloc _) (fun _=>?_);clear hK K;refine jh 8 fun K hK=>?_;go_simp;refine pmb (eG [wd,us] w3.heap.size _ _ (Zf w3 wd us) (by simp) (by show wd.size+(us.size+0)<=_;omega)) fun w5 hb5=>?_
 have B5:Hid (Below w.heap.size w w5):=(B3.o.alloc hs3 _).trans (hb5.mono (by simp;omega));have A5:Hid (VB w5 w.heap.size (.int .i64 7) (.string wd) (.string un) (.slice ka kl kc)):=(A3.o.alloc _).below hb5;clear hb5;refine hK.o _ _ A5.o (fun _=>?_);clear hK K;refine jh 9 fun K hK=>?_;go_simp;refine hK.o _ _ (A5.o) (fun _=>?_);clear hK K;refine wpAnyH_done (by kernel_rfl) ?_ _;go_wp2_with fail;go_ret;exact⟨iW HV.o,B5.o⟩
end
end
section
attribute [local go_sem] dH dI bQ bT
theorem OW(n:Nd):([1,8,9]:List Int).contains n.t.kind=qF true n:=by unfold qF nI;rw[Bool.eq_iff_iff];simp
theorem Tn(n:Nd):([1]:List Int).contains n.t.kind=qF false n:=by unfold qF nI;rw[Bool.eq_iff_iff];simp
theorem LJ(B:Nat)(l:List Nd)(v:Value)(w:World)(h:Sl (fun b=>b<B) w v l)(hB:B<=w.heap.size):
  Calls prog 52 #[v] w fun e w'=>∃u,e=.returned u/\SG kL 4 (fun b=>b<w'.heap.size) w' u (rules true l)/\Below w.heap.size w w':=by
 obtain⟨a,cap,rfl⟩:=h.form;have B1:Hid (Below w.heap.size w (w.alloc (.cells #[.int .i64 1,.int .i64 8,.int .i64 9] 3))):=(Below.refl _ _).alloc nl _;have S1:Hid (Sl (fun b=>b<B) (w.alloc (.cells #[.int .i64 1,.int .i64 8,.int .i64 9] 3)) (.slice a l.length cap) l):=h.below B1.o hB;have II:Hid (∀j,j<3->(w.alloc (.cells #[.int .i64 1,.int .i64 8,.int .i64 9] 3)).cell? ⟨w.heap.size,0+j,none⟩=some (.int .i64 (([1,8,9]:List Int).getD j 0))):=by intro j hj;have hh:(w.alloc (.cells #[.int .i64 1,.int .i64 8,.int .i64 9] 3)).heap[w.heap.size]?=_:=heap_alloc_new w _;unfold World.cell?;rw[hh];rcases(show j=0\/j=1\/j=2 by omega)with rfl|rfl|rfl<;>rfl
 clear h;go_in;go_wp2_with fail;have hlt1:w.heap.size<(w.alloc (.cells #[.int .i64 1,.int .i64 8,.int .i64 9] 3)).heap.size:=by simp
 generalize w.alloc (.cells #[.int .i64 1,.int .i64 8,.int .i64 9] 3)=w1 at *;refine(IL B true l _ [1,8,9] _ w1 S1.o oo (by simp) hlt1 II.o OW).mono ?_;rintro e w2 ⟨u,rfl,hsg,hb2⟩;obtain⟨ua,uc,rfl⟩:=hsg.form;have B2:Hid (Below w.heap.size w w2):=B1.o.trans (hb2.mono oo);have OX:Hid (SG kL 4 (fun b=>b<w2.heap.size) w2 (.slice ua (rules true l).length uc) (rules true l)):=hsg;clear hsg hb2;go_wp2_with fail;go_ret;exact⟨_,rfl,OX.o,B2.o⟩
theorem LK(B:Nat)(l:List Nd)(v:Value)(w:World)(h:Sl (fun b=>b<B) w v l)(hB:B<=w.heap.size):
  Calls prog 103 #[v] w fun e w'=>∃u,e=.returned u/\SG kL 4 (fun b=>b<w'.heap.size) w' u (rules false l)/\Below w.heap.size w w':=by
 obtain⟨a,cap,rfl⟩:=h.form;have B1:Hid (Below w.heap.size w (w.alloc (.cells #[.int .i64 1] 3))):=(Below.refl _ _).alloc nl _;have S1:Hid (Sl (fun b=>b<B) (w.alloc (.cells #[.int .i64 1] 3)) (.slice a l.length cap) l):=h.below B1.o hB;have II:Hid (∀j,j<1->(w.alloc (.cells #[.int .i64 1] 3)).cell? ⟨w.heap.size,0+j,none⟩=some (.int .i64 (([1]:List Int).getD j 0))):=by intro j hj;have hh:(w.alloc (.cells #[.int .i64 1] 3)).heap[w.heap.size]?=_:=heap_alloc_new w _;unfold World.cell?;rw[hh];obtain rfl:j=0:=oo;rfl
 clear h;go_in;go_wp2_with fail;have hlt1:w.heap.size<(w.alloc (.cells #[.int .i64 1] 3)).heap.size:=by simp
 generalize w.alloc (.cells #[.int .i64 1] 3)=w1 at *;refine(IL B false l _ [1] _ w1 S1.o oo (by simp) hlt1 II.o Tn).mono ?_;rintro e w2 ⟨u,rfl,hsg,hb2⟩;obtain⟨ua,uc,rfl⟩:=hsg.form;have B2:Hid (Below w.heap.size w w2):=B1.o.trans (hb2.mono oo);have OX:Hid (SG kL 4 (fun b=>b<w2.heap.size) w2 (.slice ua (rules false l).length uc) (rules false l)):=hsg;clear hsg hb2;go_wp2_with fail;go_ret;exact⟨_,rfl,OX.o,B2.o⟩
theorem OY(p:ByteArray):Lib.hasPrefix p.data.toList [45,45]=custom p:=by have h:=qV p [45,45] 0;rw[List.drop_zero]at h;unfold Lib.hasPrefix;rw[h];show(pk p 0==45&&(pk p 1==45&&true))=(decide (pk p 0=45)&&decide (pk p 1=45));rw[Bool.and_true];rfl
theorem Eu(p:ByteArray)(w:World):Calls prog 85 #[.string p] w fun e w'=>e=.returned (.bool (custom p))/\w'=w:=by have HV:Hid (Lib.hasPrefix p.data.toList [45,45]=custom p):=OY p;go_in;go_wp2_with fail;refine pmb (Tryz.strings_HasPrefix p ⟨#[45,45]⟩ w) fun wq hwq=>?_;rw[hwq];go_wp2_with fail;go_ret;exact⟨aI HV.o,rfl⟩
theorem OZ(p:ByteArray)(w:World)(hp:p.size<=4000000):Calls prog 46 #[.string p] w fun e w'=>e=.returned (.string (je p))/\Below w.heap.size w w':=by
 obtain⟨z,Hz⟩:∃z,Hid (custom p=z):=⟨_,hid rfl⟩;have hc:=Eu p w;rw[Hz.o]at hc;have HC:Hid (Calls prog 85 #[.string p] w fun e w'=>e=.returned (.bool z)/\w'=w):=hc;clear hc;cases z
 .have HV:Hid (je p=small p):=by show _=_;unfold je;rw[Hz.o];rfl
  go_in;go_wp2_with fail;refine HC.o.mono ?_;rintro e wq ⟨rfl,hwq⟩;rw[hwq];go_wp2_with fail;refine pmb (oH p _ hp) fun w3 hb3=>?_;have B3:Hid (Below w.heap.size w w3):=hb3;clear hb3;go_wp2_with fail;go_ret;exact⟨iW HV.o.symm,B3.o⟩
 .have HV:Hid (je p=p):=by show _=_;unfold je;rw[Hz.o];rfl
  go_in;go_wp2_with fail;refine HC.o.mono ?_;rintro e wq ⟨rfl,hwq⟩;rw[hwq];go_wp2_with fail;go_ret;exact⟨iW HV.o.symm,Below.refl _ _⟩
end
end Go.Proofs.YtlliliddljkbfaaGreatDoor
