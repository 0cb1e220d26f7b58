import Derived.Test.YtlliliddljkbfaaGreatC6
import Derived.Shelf.Small.Wraps
import Derived.Shelf.Strconv.Itoa3
import Derived.Shelf.Strings.Shaped
import Derived.Shelf.Strings.SplitShaped
import Derived.Shelf.Strings.FieldsAny
import Derived.Shelf.Unicode.ExclAny
import Derived.Shelf.Slices.Turned
import Derived.Test.YtlliliddljkbfaaGreatProg
set_option maxHeartbeats 64000000
set_option maxRecDepth 100000
namespace Go.Proofs.YtlliliddljkbfaaGreat
open Go.Proofs.Tryz (prog)
open Go.RowKit Sp
section
attribute [local go_sem] bI bJ aX aY
def rD(l:List Nd)(i:Nat):Option Tok:=if i=0 then none else(l[i-1]?).map Nd.t
structure VwI(w:WD)(l:List Nd)(u:Av)(ps:List BY)(i:Nat)(wr:WD):Prop where
 row:wr.ownsRow w.heap.size 9 1 u ps.length (ps.map Value.string)
 below:Below w.heap.size w wr
 eq:Sp.written l=aG ps++l9 (rD l i) (l.drop i)
 ln:ps.length<=2*i
theorem acE{l:List Nd}{i:Nat}(h:i<l.length):l9 (rD l i) (l.drop i)=(if Ak (rD l i) l[i].t=true then aA else Aj (rD l i) l[i].t++iM l[i])++l9 (rD l (i+1)) (l.drop (i+1)):=by
 rw[List.drop_eq_getElem_cons h];have e:rD l (i+1)=some l[i].t:=by unfold rD;rw[if_neg oo];simp[h]
 rw[e];conv=>lhs;unfold l9
theorem acF{l:List Nd}{i:Nat}(h:i<l.length)(h0:0<i):rD l i=some (l[i-1]'oo).t:=by unfold rD;rw[if_neg oo,List.getElem?_eq_getElem oo];rfl
theorem nJ(a:BY):aA++a=a:=by
 apply ByteArray.ext
 rw[ByteArray.data_append];simp[aA]
theorem nK:∀(l:List Nd) (n:Nd),n∈l->Cc n<=dL l
 |m::r,n,h=>by
  unfold dL;rcases List.mem_cons.1 h with e|e
  .subst e;omega
  .have:=nK r n e;omega
theorem acG(n:Nd):dL n.kids<=Cc n:=by obtain⟨t,k⟩:=n;unfold Cc;show dL k<=_;omega
theorem MQ(l:List Nd)(hrec:∀n∈l,tH n.kids):tH l:=by
 intro B v w h hB hz;have FU:=h.len;have HS:=hid h;have HR:=hid hrec;obtain⟨a,cap,rfl⟩:=h.form;clear h hrec;obtain⟨iS,wK⟩:=info_str;have HI:=hid wK;clear wK;have HZ:Hid ((Sp.written l).size<=549755813888):=Nat.le_trans (jP l) hz;go_in;go_wp2_with fail;go_loopg[3,8] l.length (fun gg v3 v8 wr=>∃(u:Av) (ps:List BY) (i:Nat),u=v3/\v8=.int .i64 (i:Int)/\i+gg=l.length/\ps.length<=2*i/\Aside (VwI w l u ps i wr));case atStart=>exact⟨_,[],0,rfl,rfl,oo,by simp,World.ownsRow_nil _ _ _ _,Ax,by rw[show aG []=aA from rfl,nJ];rfl,by simp⟩
 case round=>
  obtain⟨u,ps,i,rfl,rfl,hi,hpl,hA⟩:=hrel;have HC:Hid (VwI w l u ps i wr):=hA.o;clear hA;have hsr:=HC.o.below.size;have hpt:total ps<=549755813888:=by rw[<-oQ];have:=HZ.o;rw[HC.o.eq,ByteArray.size_append]at this;omega
  by_cases hlt:i<l.length
  .have h1:(i:Int)<(l.length:Int):=oo;have S1:=HS.o.below HC.o.below hB;have SB:=hid S1;obtain⟨g,o,rfl,hL,hcap⟩:=S1.here (by rintro rfl;simp at hlt);obtain⟨kv,hN⟩:=hL.node (i:=i) hlt;have HLL:=hid hL;obtain⟨n,hn⟩:∃n,n=l[i]:=⟨_,rfl⟩;have HM:Hid (n∈l):=by rw[hn];exact List.getElem_mem _
   have HW:=acE hlt;rw[<-hn]at hN HW;have Qh:=hid HW;have FY:=hid hN.ok;have HKV:=hid hN.k;have HWZ:Hid (dL n.kids<=549755813888):=Nat.le_trans (acG n) (Nat.le_trans (nK l n HM.o) hz);obtain⟨ka,kc,rfl⟩:=hN.k.form;have d0:=hN.c0;have d1:=hN.c1;have d2:=hN.c2;have d3:=hN.c3;have hgB:g<B:=hN.s;clear hN hL S1 HW hn;have A2:Hid (VB (wr.alloc (.cells #[.int .i64 n.t.kind,.string n.t.word,.string n.t.unit,.slice ka n.kids.length kc] 199)) wr.heap.size (.int .i64 n.t.kind) (.string n.t.word) (.string n.t.unit) (.slice ka n.kids.length kc)):=VB.new _ _ _ _ _
   have B2:Hid (Below wr.heap.size wr (wr.alloc (.cells #[.int .i64 n.t.kind,.string n.t.word,.string n.t.unit,.slice ka n.kids.length kc] 199))):=Ax.alloc nl _;go_upto_region 5 with fail
   generalize wr.alloc (.cells #[.int .i64 n.t.kind,.string n.t.word,.string n.t.unit,.slice ka n.kids.length kc] 199)=w2 at *;obtain⟨gt,mV⟩:=Nm wr.heap.size;have A3:Hid (VB w2 gt (.int .i64 n.t.kind) (.string n.t.word) (.string n.t.unit) (.slice ka n.kids.length kc)):=by rw[<-mV.o];exact A2
   rw[mV.o];clear A2 d0 d1 d2 d3;obtain⟨a0,a1,a2,a3⟩:=A3.o.cs;have BL2:=hid (HC.o.below.trans (B2.o.mono hsr));have O2:Hid (w2.ownsRow w.heap.size 9 1 u ps.length (ps.map Value.string)):=aP HC.o.row fun r hr=>B2.o.block r (HC.o.row.lt r hr).2;have K2:=hid (HKV.o.below B2.o oo);have hs2:=BL2.o.size;by_cases h0:i=0
   .subst h0;have HPV:Hid (rD l 0=none):=rfl;go_wp2_with fail;refine pmb (vM n (HR.o n HM.o) B _ w2 K2.o oo FY.o HWZ.o) fun w7 hb7=>?_;have B7:=hid (BL2.o.trans (hb7.mono oo));have O7:Hid (w7.ownsRow w.heap.size 9 1 u (ps).length ((ps).map Value.string)):=aP O2.o fun r hr=>hb7.block r (O2.o.lt r hr).2;have hs7:=B7.o.size;clear hb7;go_wp2_with(at_builtin;go_must(refine wpList_append_own _ rfl _ _ 26 rfl w.heap.size 9 iS (.string ⟨#[]⟩) 1 16 Tryz.underlying26 HI.o.1 HI.o.2.1 HI.o.2.2.1 HI.o.2.2.2 rfl oo u (ps).length ((ps).map Value.string) rfl (O7.o.alloc _) ⟨w7.heap.size,0,none⟩ 1 1 [.string (iM n)] rfl rfl (cell_one_new _ _ _) (aT _) (by unfold maxLen;simp;omega) oo An ?_));intro v8 w8 eP lD _
    have VP:Hid (VwI w l v8 ((ps)++[iM n]) (0+1) w8):=⟨by first|(rw[List.length_append,List.map_append];exact eP)|simpa using eP,(B7.o.alloc hs7 _).grown lD An (fun rr hr=>(O7.o.lt rr hr).1),by rw[dw,HC.o.eq,Qh.o,HPV.o];show _++((if false=true then aA else aA++iM n)++_)=_;rw[if_neg (by simp),nJ,ByteArray.append_assoc],by simp;omega⟩;clear eP lD;go_wp2_with fail;go_roundg(gk-1);case measure=>omega
    case rel=>exact⟨v8,(ps)++[iM n],0+1,rfl,by congr 1,oo,by simp;omega,VP.o⟩
   .have h0':0<i:=oo;have h0i:(0:Int)<(i:Int):=oo;obtain⟨m,hm⟩:∃m,m=l[i-1]'oo:=⟨_,rfl⟩;obtain⟨mv,hNm⟩:=HLL.o.node (i:=i-1) oo;rw[<-hm]at hNm;have HPV:Hid (rD l i=some m.t):=by show _=_;rw[acF hlt h0',hm]
    obtain⟨ma,mc,rfl⟩:=hNm.k.form;have HMC:Hid (∀wx,Below wr.heap.size wr wx->wx.cell? ⟨g,o+(i-1)*4,none⟩=some (.int .i64 m.t.kind)/\wx.cell? ⟨g,o+(i-1)*4+1,none⟩=some (.string m.t.word)/\wx.cell? ⟨g,o+(i-1)*4+2,none⟩=some (.string m.t.unit)/\wx.cell? ⟨g,o+(i-1)*4+3,none⟩=some (.slice ma m.kids.length mc)):=by
     intro wx hb;have hg:g<wr.heap.size:=oo;refine⟨?_,?_,?_,?_⟩
     .rw[hb.cell (p:=⟨g,_,none⟩) hg];exact hNm.c0
     .rw[hb.cell (p:=⟨g,_,none⟩) hg];exact hNm.c1
     .rw[hb.cell (p:=⟨g,_,none⟩) hg];exact hNm.c2
     .rw[hb.cell (p:=⟨g,_,none⟩) hg];exact hNm.c3
    clear hNm hm;have X2:Hid (Below wr.heap.size wr w2):=by rw[mV.o];rw[mV.o]at B2;exact B2.o
    have A2:Hid (VB w2 gt (.int .i64 n.t.kind) (.string n.t.word) (.string n.t.unit) (.slice ka n.kids.length kc)):=A3.o;clear A3 O2 K2 BL2 B2;have hwi:IntKind.i64.wrap ((i:Int)-1)=((i-1:Nat):Int):=by rw[IntKind.wrap_i64];omega
    have hi1:((i-1:Nat):Int)<(l.length:Int):=oo;obtain⟨b0,b1',b2',b3⟩:=HMC.o w2 X2.o;obtain⟨x1,Hx1⟩:=Nm (decide (n.t.kind=1));obtain⟨x2,Hx2⟩:=Nm (decide (m.t.kind=1));obtain⟨x3,Hx3⟩:=Nm (Cj m.t);obtain⟨x4,Hx4⟩:=Nm (zQ n.t);clear h0;go_wp2_with fail;refine(Ci n.t ka n.kids.length kc _).mono ?_;rw[Hx1.o];rintro e w3 ⟨rfl,hb3⟩;have X3:=hid (AC X2.o hb3);have A3:=hid (A2.o.below hb3);clear hb3 a0 a1 a2 a3 b0 b1' b2' b3;obtain⟨a0,a1,a2,a3⟩:=A3.o.cs;obtain⟨b0,b1',b2',b3⟩:=HMC.o w3 X3.o;cases x1
    .have HTW:Hid (Ak (some m.t) n.t=false):=by show _=_;show(decide (m.t.kind=1)&&decide (n.t.kind=1))=false;rw[Hx1.o];exact Bool.and_false _
     go_wp2_with fail;refine(Fq m.t ma m.kids.length mc _).mono ?_;rw[Hx3.o];rintro e w13 ⟨rfl,aak⟩;have X13:=hid (AC X3.o aak);have A13:=hid (A3.o.below aak);clear aak a0 a1 a2 a3 b0 b1' b2' b3;obtain⟨a0,a1,a2,a3⟩:=A13.o.cs;obtain⟨b0,b1',b2',b3⟩:=HMC.o w13 X13.o;cases x3
     .have HGP:Hid (Aj (some m.t) n.t=if (!x4)=true then og else aA):=by show(if parts m.t n.t=true then og else aA)=_;rw[parts_eq,Hx3.o,Hx4.o];rfl
      go_wp2_with fail;refine(zU n.t ka n.kids.length kc _).mono ?_;rw[Hx4.o];rintro e Ll ⟨rfl,VQ⟩;have YC:=hid (AC X13.o VQ);have A14:=hid (A13.o.below VQ);clear VQ a0 a1 a2 a3 b0 b1' b2' b3;obtain⟨a0,a1,a2,a3⟩:=A14.o.cs;obtain⟨b0,b1',b2',b3⟩:=HMC.o Ll YC.o;cases x4
      .have HG2:Hid (Aj (some m.t) n.t=og):=HGP.o;have MR:=hid (HC.o.below.trans (YC.o.mono hsr));have Ok:Hid (Ll.ownsRow w.heap.size 9 1 u ps.length (ps.map Value.string)):=aP HC.o.row fun r hr=>YC.o.block r (HC.o.row.lt r hr).2;have Kk:=hid (HKV.o.below YC.o oo);have hsk:=MR.o.size;have HO:Hid ((Ll.alloc (.cells #[.string ⟨#[47,42,42,47]⟩] 9)).ownsRow w.heap.size 9 1 u ps.length (ps.map Value.string)):=Ok.o.alloc _
       go_wp2_with(at_builtin;go_must(refine wpList_append_own _ rfl _ _ 26 rfl w.heap.size 9 iS (.string ⟨#[]⟩) 1 16 Tryz.underlying26 HI.o.1 HI.o.2.1 HI.o.2.2.1 HI.o.2.2.2 rfl oo u ps.length (ps.map Value.string) rfl HO.o ⟨Ll.heap.size,0,none⟩ 1 1 [.string ⟨#[47,42,42,47]⟩] rfl rfl (cell_one_new _ _ _) (aT _) As oo An ?_));intro v6 w6 hown6 lS _;have BL6:Hid (Below w.heap.size w w6):=(MR.o.alloc hsk _).grown lS An (fun rr hr=>(Ok.o.lt rr hr).1);have X6:Hid (Below B Ll w6):=(Ax.alloc oo _).grown lS An (fun rr hr=>by have:=(Ok.o.lt rr hr).1;omega);have A6:Hid (VB w6 gt (.int .i64 n.t.kind) (.string n.t.word) (.string n.t.unit) (.slice ka n.kids.length kc)):=by
        have hne:u.ownBlock≠some gt:=fun e=>by have:=(HC.o.row.lt gt e).2;have:=mV.o;omega
        have ai7:=A14.o.lt;show w6.heap[gt]?=_;rw[lS.block gt (by simp;omega) (fun e=>hne e.symm),Below.heap_alloc _ _ _ ai7];exact A14.o
       have O6:Hid (w6.ownsRow w.heap.size 9 1 v6 (ps++[og]).length ((ps++[og]).map Value.string)):=by show World.ownsRow _ _ _ _ _ _ _;rw[List.length_append,List.map_append];exact hown6
       have hp6:(ps++[og]).length<=2*i+1:=by simp;omega
       have K6:=hid (Kk.o.below X6.o nl);have hs6:=BL6.o.size;clear hown6 lS a0 a1 a2 a3 b0 b1' b2' b3 HO;obtain⟨a0,a1,a2,a3⟩:=A6.o.cs;go_wp2_with fail;refine pmb (vM n (HR.o n HM.o) B _ w6 K6.o oo FY.o HWZ.o) fun w7 hb7=>?_;have B7:=hid (BL6.o.trans (hb7.mono oo));have O7:Hid (w7.ownsRow w.heap.size 9 1 v6 (ps++[og]).length ((ps++[og]).map Value.string)):=aP O6.o fun r hr=>hb7.block r (O6.o.lt r hr).2;have hs7:=B7.o.size;clear hb7
       go_wp2_with(at_builtin;go_must(refine wpList_append_own _ rfl _ _ 26 rfl w.heap.size 9 iS (.string ⟨#[]⟩) 1 16 Tryz.underlying26 HI.o.1 HI.o.2.1 HI.o.2.2.1 HI.o.2.2.2 rfl oo v6 (ps++[og]).length ((ps++[og]).map Value.string) rfl (O7.o.alloc _) ⟨w7.heap.size,0,none⟩ 1 1 [.string (iM n)] rfl rfl (cell_one_new _ _ _) (aT _) (by unfold maxLen;simp;omega) oo An ?_));intro v8 w8 eP lD _;have VP:Hid (VwI w l v8 ((ps++[og])++[iM n]) (i+1) w8):=⟨by first|(rw[List.length_append,List.map_append];exact eP)|simpa using eP,(B7.o.alloc hs7 _).grown lD An (fun rr hr=>(O7.o.lt rr hr).1),by rw[dw,dw,HC.o.eq,Qh.o,HPV.o,if_neg (by rw[HTW.o];simp),HG2.o,ByteArray.append_assoc,ByteArray.append_assoc,ByteArray.append_assoc],by simp;omega⟩;clear eP lD;go_wp2_with fail;go_roundg(gk-1)
       case measure=>omega
       case rel=>exact⟨v8,(ps++[og])++[iM n],i+1,rfl,by congr 1,oo,by simp;omega,VP.o⟩
      .have HG2:Hid (Aj (some m.t) n.t=aA):=HGP.o;have MR:=hid (HC.o.below.trans (YC.o.mono hsr));have Ok:Hid (Ll.ownsRow w.heap.size 9 1 u ps.length (ps.map Value.string)):=aP HC.o.row fun r hr=>YC.o.block r (HC.o.row.lt r hr).2;have Kk:=hid (HKV.o.below YC.o oo);have hsk:=MR.o.size;go_wp2_with fail;refine pmb (vM n (HR.o n HM.o) B _ Ll Kk.o oo FY.o HWZ.o) fun w7 hb7=>?_;have B7:=hid (MR.o.trans (hb7.mono oo));have O7:Hid (w7.ownsRow w.heap.size 9 1 u (ps).length ((ps).map Value.string)):=aP Ok.o fun r hr=>hb7.block r (Ok.o.lt r hr).2;have hs7:=B7.o.size;clear hb7
       go_wp2_with(at_builtin;go_must(refine wpList_append_own _ rfl _ _ 26 rfl w.heap.size 9 iS (.string ⟨#[]⟩) 1 16 Tryz.underlying26 HI.o.1 HI.o.2.1 HI.o.2.2.1 HI.o.2.2.2 rfl oo u (ps).length ((ps).map Value.string) rfl (O7.o.alloc _) ⟨w7.heap.size,0,none⟩ 1 1 [.string (iM n)] rfl rfl (cell_one_new _ _ _) (aT _) (by unfold maxLen;simp;omega) oo An ?_));intro v8 w8 eP lD _;have VP:Hid (VwI w l v8 ((ps)++[iM n]) (i+1) w8):=⟨by first|(rw[List.length_append,List.map_append];exact eP)|simpa using eP,(B7.o.alloc hs7 _).grown lD An (fun rr hr=>(O7.o.lt rr hr).1),by rw[dw,HC.o.eq,Qh.o,HPV.o,if_neg (by rw[HTW.o];simp),HG2.o,nJ,ByteArray.append_assoc],by simp;omega⟩;clear eP lD;go_wp2_with fail;go_roundg(gk-1);case measure=>omega
       case rel=>exact⟨v8,(ps)++[iM n],i+1,rfl,by congr 1,oo,by simp;omega,VP.o⟩
     .have HG2:Hid (Aj (some m.t) n.t=aA):=by show(if parts m.t n.t=true then og else aA)=_;rw[parts_eq,Hx3.o];rfl
      have MR:=hid (HC.o.below.trans (X13.o.mono hsr));have Ok:Hid (w13.ownsRow w.heap.size 9 1 u ps.length (ps.map Value.string)):=aP HC.o.row fun r hr=>X13.o.block r (HC.o.row.lt r hr).2;have Kk:=hid (HKV.o.below X13.o oo);have hsk:=MR.o.size;go_wp2_with fail;refine pmb (vM n (HR.o n HM.o) B _ w13 Kk.o oo FY.o HWZ.o) fun w7 hb7=>?_;have B7:=hid (MR.o.trans (hb7.mono oo));have O7:Hid (w7.ownsRow w.heap.size 9 1 u (ps).length ((ps).map Value.string)):=aP Ok.o fun r hr=>hb7.block r (Ok.o.lt r hr).2;have hs7:=B7.o.size;clear hb7
      go_wp2_with(at_builtin;go_must(refine wpList_append_own _ rfl _ _ 26 rfl w.heap.size 9 iS (.string ⟨#[]⟩) 1 16 Tryz.underlying26 HI.o.1 HI.o.2.1 HI.o.2.2.1 HI.o.2.2.2 rfl oo u (ps).length ((ps).map Value.string) rfl (O7.o.alloc _) ⟨w7.heap.size,0,none⟩ 1 1 [.string (iM n)] rfl rfl (cell_one_new _ _ _) (aT _) (by unfold maxLen;simp;omega) oo An ?_));intro v8 w8 eP lD _;have VP:Hid (VwI w l v8 ((ps)++[iM n]) (i+1) w8):=⟨by first|(rw[List.length_append,List.map_append];exact eP)|simpa using eP,(B7.o.alloc hs7 _).grown lD An (fun rr hr=>(O7.o.lt rr hr).1),by rw[dw,HC.o.eq,Qh.o,HPV.o,if_neg (by rw[HTW.o];simp),HG2.o,nJ,ByteArray.append_assoc],by simp;omega⟩;clear eP lD;go_wp2_with fail;go_roundg(gk-1);case measure=>omega
      case rel=>exact⟨v8,(ps)++[iM n],i+1,rfl,by congr 1,oo,by simp;omega,VP.o⟩
    .go_wp2_with fail;refine(Ci m.t ma m.kids.length mc _).mono ?_;rw[Hx2.o];rintro e w4 ⟨rfl,hb4⟩;have X4:=hid (AC X3.o hb4);have A4:=hid (A3.o.below hb4);clear hb4 a0 a1 a2 a3 b0 b1' b2' b3;obtain⟨a0,a1,a2,a3⟩:=A4.o.cs;obtain⟨b0,b1',b2',b3⟩:=HMC.o w4 X4.o;cases x2
     .have HTW:Hid (Ak (some m.t) n.t=false):=by show _=_;show(decide (m.t.kind=1)&&decide (n.t.kind=1))=false;rw[Hx2.o];rfl
      go_wp2_with fail;refine(Fq m.t ma m.kids.length mc _).mono ?_;rw[Hx3.o];rintro e Ll ⟨rfl,VQ⟩;have YC:=hid (AC X4.o VQ);have A14:=hid (A4.o.below VQ);clear VQ a0 a1 a2 a3 b0 b1' b2' b3;obtain⟨a0,a1,a2,a3⟩:=A14.o.cs;obtain⟨b0,b1',b2',b3⟩:=HMC.o Ll YC.o;cases x3
      .have HGP:Hid (Aj (some m.t) n.t=if (!x4)=true then og else aA):=by show(if parts m.t n.t=true then og else aA)=_;rw[parts_eq,Hx3.o,Hx4.o];rfl
       go_wp2_with fail;refine(zU n.t ka n.kids.length kc _).mono ?_;rw[Hx4.o];rintro e w15 ⟨rfl,acH⟩;have X15:=hid (AC YC.o acH);have A15:=hid (A14.o.below acH);clear acH a0 a1 a2 a3 b0 b1' b2' b3;obtain⟨a0,a1,a2,a3⟩:=A15.o.cs;obtain⟨b0,b1',b2',b3⟩:=HMC.o w15 X15.o;cases x4
       .have HG2:Hid (Aj (some m.t) n.t=og):=HGP.o;have MR:=hid (HC.o.below.trans (X15.o.mono hsr));have Ok:Hid (w15.ownsRow w.heap.size 9 1 u ps.length (ps.map Value.string)):=aP HC.o.row fun r hr=>X15.o.block r (HC.o.row.lt r hr).2;have Kk:=hid (HKV.o.below X15.o oo);have hsk:=MR.o.size;have HO:Hid ((w15.alloc (.cells #[.string ⟨#[47,42,42,47]⟩] 9)).ownsRow w.heap.size 9 1 u ps.length (ps.map Value.string)):=Ok.o.alloc _
        go_wp2_with(at_builtin;go_must(refine wpList_append_own _ rfl _ _ 26 rfl w.heap.size 9 iS (.string ⟨#[]⟩) 1 16 Tryz.underlying26 HI.o.1 HI.o.2.1 HI.o.2.2.1 HI.o.2.2.2 rfl oo u ps.length (ps.map Value.string) rfl HO.o ⟨w15.heap.size,0,none⟩ 1 1 [.string ⟨#[47,42,42,47]⟩] rfl rfl (cell_one_new _ _ _) (aT _) As oo An ?_));intro v6 w6 hown6 lS _;have BL6:Hid (Below w.heap.size w w6):=(MR.o.alloc hsk _).grown lS An (fun rr hr=>(Ok.o.lt rr hr).1);have X6:Hid (Below B w15 w6):=(Ax.alloc oo _).grown lS An (fun rr hr=>by have:=(Ok.o.lt rr hr).1;omega);have A6:Hid (VB w6 gt (.int .i64 n.t.kind) (.string n.t.word) (.string n.t.unit) (.slice ka n.kids.length kc)):=by
         have hne:u.ownBlock≠some gt:=fun e=>by have:=(HC.o.row.lt gt e).2;have:=mV.o;omega
         have ai7:=A15.o.lt;show w6.heap[gt]?=_;rw[lS.block gt (by simp;omega) (fun e=>hne e.symm),Below.heap_alloc _ _ _ ai7];exact A15.o
        have O6:Hid (w6.ownsRow w.heap.size 9 1 v6 (ps++[og]).length ((ps++[og]).map Value.string)):=by show World.ownsRow _ _ _ _ _ _ _;rw[List.length_append,List.map_append];exact hown6
        have hp6:(ps++[og]).length<=2*i+1:=by simp;omega
        have K6:=hid (Kk.o.below X6.o nl);have hs6:=BL6.o.size;clear hown6 lS a0 a1 a2 a3 b0 b1' b2' b3 HO;obtain⟨a0,a1,a2,a3⟩:=A6.o.cs;go_wp2_with fail;refine pmb (vM n (HR.o n HM.o) B _ w6 K6.o oo FY.o HWZ.o) fun w7 hb7=>?_;have B7:=hid (BL6.o.trans (hb7.mono oo));have O7:Hid (w7.ownsRow w.heap.size 9 1 v6 (ps++[og]).length ((ps++[og]).map Value.string)):=aP O6.o fun r hr=>hb7.block r (O6.o.lt r hr).2;have hs7:=B7.o.size;clear hb7
        go_wp2_with(at_builtin;go_must(refine wpList_append_own _ rfl _ _ 26 rfl w.heap.size 9 iS (.string ⟨#[]⟩) 1 16 Tryz.underlying26 HI.o.1 HI.o.2.1 HI.o.2.2.1 HI.o.2.2.2 rfl oo v6 (ps++[og]).length ((ps++[og]).map Value.string) rfl (O7.o.alloc _) ⟨w7.heap.size,0,none⟩ 1 1 [.string (iM n)] rfl rfl (cell_one_new _ _ _) (aT _) (by unfold maxLen;simp;omega) oo An ?_));intro v8 w8 eP lD _;have VP:Hid (VwI w l v8 ((ps++[og])++[iM n]) (i+1) w8):=⟨by first|(rw[List.length_append,List.map_append];exact eP)|simpa using eP,(B7.o.alloc hs7 _).grown lD An (fun rr hr=>(O7.o.lt rr hr).1),by rw[dw,dw,HC.o.eq,Qh.o,HPV.o,if_neg (by rw[HTW.o];simp),HG2.o,ByteArray.append_assoc,ByteArray.append_assoc,ByteArray.append_assoc],by simp;omega⟩;clear eP lD;go_wp2_with fail;go_roundg(gk-1)
        case measure=>omega
        case rel=>exact⟨v8,(ps++[og])++[iM n],i+1,rfl,by congr 1,oo,by simp;omega,VP.o⟩
       .have HG2:Hid (Aj (some m.t) n.t=aA):=HGP.o;have MR:=hid (HC.o.below.trans (X15.o.mono hsr));have Ok:Hid (w15.ownsRow w.heap.size 9 1 u ps.length (ps.map Value.string)):=aP HC.o.row fun r hr=>X15.o.block r (HC.o.row.lt r hr).2;have Kk:=hid (HKV.o.below X15.o oo);have hsk:=MR.o.size;go_wp2_with fail;refine pmb (vM n (HR.o n HM.o) B _ w15 Kk.o oo FY.o HWZ.o) fun w7 hb7=>?_;have B7:=hid (MR.o.trans (hb7.mono oo));have O7:Hid (w7.ownsRow w.heap.size 9 1 u (ps).length ((ps).map Value.string)):=aP Ok.o fun r hr=>hb7.block r (Ok.o.lt r hr).2;have hs7:=B7.o.size;clear hb7
        go_wp2_with(at_builtin;go_must(refine wpList_append_own _ rfl _ _ 26 rfl w.heap.size 9 iS (.string ⟨#[]⟩) 1 16 Tryz.underlying26 HI.o.1 HI.o.2.1 HI.o.2.2.1 HI.o.2.2.2 rfl oo u (ps).length ((ps).map Value.string) rfl (O7.o.alloc _) ⟨w7.heap.size,0,none⟩ 1 1 [.string (iM n)] rfl rfl (cell_one_new _ _ _) (aT _) (by unfold maxLen;simp;omega) oo An ?_));intro v8 w8 eP lD _;have VP:Hid (VwI w l v8 ((ps)++[iM n]) (i+1) w8):=⟨by first|(rw[List.length_append,List.map_append];exact eP)|simpa using eP,(B7.o.alloc hs7 _).grown lD An (fun rr hr=>(O7.o.lt rr hr).1),by rw[dw,HC.o.eq,Qh.o,HPV.o,if_neg (by rw[HTW.o];simp),HG2.o,nJ,ByteArray.append_assoc],by simp;omega⟩;clear eP lD;go_wp2_with fail;go_roundg(gk-1);case measure=>omega
        case rel=>exact⟨v8,(ps)++[iM n],i+1,rfl,by congr 1,oo,by simp;omega,VP.o⟩
      .have HG2:Hid (Aj (some m.t) n.t=aA):=by show(if parts m.t n.t=true then og else aA)=_;rw[parts_eq,Hx3.o];rfl
       have MR:=hid (HC.o.below.trans (YC.o.mono hsr));have Ok:Hid (Ll.ownsRow w.heap.size 9 1 u ps.length (ps.map Value.string)):=aP HC.o.row fun r hr=>YC.o.block r (HC.o.row.lt r hr).2;have Kk:=hid (HKV.o.below YC.o oo);have hsk:=MR.o.size;go_wp2_with fail;refine pmb (vM n (HR.o n HM.o) B _ Ll Kk.o oo FY.o HWZ.o) fun w7 hb7=>?_;have B7:=hid (MR.o.trans (hb7.mono oo));have O7:Hid (w7.ownsRow w.heap.size 9 1 u (ps).length ((ps).map Value.string)):=aP Ok.o fun r hr=>hb7.block r (Ok.o.lt r hr).2;have hs7:=B7.o.size;clear hb7
       go_wp2_with(at_builtin;go_must(refine wpList_append_own _ rfl _ _ 26 rfl w.heap.size 9 iS (.string ⟨#[]⟩) 1 16 Tryz.underlying26 HI.o.1 HI.o.2.1 HI.o.2.2.1 HI.o.2.2.2 rfl oo u (ps).length ((ps).map Value.string) rfl (O7.o.alloc _) ⟨w7.heap.size,0,none⟩ 1 1 [.string (iM n)] rfl rfl (cell_one_new _ _ _) (aT _) (by unfold maxLen;simp;omega) oo An ?_));intro v8 w8 eP lD _;have VP:Hid (VwI w l v8 ((ps)++[iM n]) (i+1) w8):=⟨by first|(rw[List.length_append,List.map_append];exact eP)|simpa using eP,(B7.o.alloc hs7 _).grown lD An (fun rr hr=>(O7.o.lt rr hr).1),by rw[dw,HC.o.eq,Qh.o,HPV.o,if_neg (by rw[HTW.o];simp),HG2.o,nJ,ByteArray.append_assoc],by simp;omega⟩;clear eP lD;go_wp2_with fail;go_roundg(gk-1);case measure=>omega
       case rel=>exact⟨v8,(ps)++[iM n],i+1,rfl,by congr 1,oo,by simp;omega,VP.o⟩
     .have HTW:Hid (Ak (some m.t) n.t=true):=by show(decide (m.t.kind=1)&&decide (n.t.kind=1))=true;rw[Hx1.o,Hx2.o];rfl
      have MR:=hid (HC.o.below.trans (X4.o.mono hsr));have Ok:Hid (w4.ownsRow w.heap.size 9 1 u ps.length (ps.map Value.string)):=aP HC.o.row fun r hr=>X4.o.block r (HC.o.row.lt r hr).2;have Kk:=hid (HKV.o.below X4.o oo);have hsk:=MR.o.size;have VP:Hid (VwI w l u ps (i+1) w4):=⟨Ok.o,MR.o,by rw[HC.o.eq,Qh.o,HPV.o,if_pos HTW.o,nJ],oo⟩;go_wp2_with fail;go_roundg(gk-1);case measure=>omega
      case rel=>exact⟨u,ps,i+1,rfl,by congr 1,oo,oo,VP.o⟩
  .have h1:(l.length:Int)<=(i:Int):=oo;have HV:Hid (aG ps=Sp.written l):=by
    show _=_;rw[HC.o.eq,List.drop_of_length_le oo];exact(mO _).symm
   go_wp2_with fail;refine pmb (dQ ps w.heap.size u _ HC.o.row oo oo) fun w5 hb5=>?_;have B5:=hid (HC.o.below.trans (hb5.mono hsr));clear hb5;go_wp2_with fail;go_ret;exact⟨mg HV.o,B5.o⟩
theorem aal:∀(k:Nat) (l:List Nd),dL l<=k->tH l:=by
 intro k;induction k with
 |zero=>intro l h;refine MQ l fun n hn=>?_;have:=nK l n hn;obtain⟨t,q⟩:=n;unfold Cc at this;omega
 |succ k ih=>intro l h;refine MQ l fun n hn=>ih _ ?_;have:=nK l n hn;obtain⟨t,q⟩:=n;unfold Cc at this;show dL q<=k;omega
theorem uq(l:List Nd):tH l:=aal _ l nl
end
theorem LG.stp{C:wV Simple}{S:Nat->Prop}{w:WD}{l:List Step}{g o i:Nat}(h:LG (fO C) 2 S w l g o)(hi:i<l.length):∃av,w.cell? ⟨g,o+i*2,none⟩=some (.int .i64 (sG l[i].1))/\w.cell? ⟨g,o+i*2+1,none⟩=some av/\SG C 1 S w av l[i].2/\S g:=by
 obtain⟨h0,cs,⟨av,rfl,hs⟩,hc⟩:=h.at l g o i hi;refine⟨av,?_,?_,hs,h0⟩
 .have:=hc 0 _ rfl;rwa[Nat.add_zero]at this
 .exact hc 1 _ rfl
theorem LG.prt{f:Nat}{S:Nat->Prop}{w:WD}{l:List Simple}{g o i:Nat}(h:LG (aQ f) 1 S w l g o)(hi:i<l.length):∃pv,w.cell? ⟨g,o+i,none⟩=some pv/\aQ f S w l[i] [pv]/\S g:=by
 obtain⟨h0,cs,hC,hc⟩:=h.at l g o i hi;have hl:=aQ.sized f _ _ _ _ hC;obtain⟨pv,rfl⟩:∃pv,cs=[pv]:=by
  match cs,hl with
  |[pv],_=>exact⟨pv,rfl⟩
 refine⟨pv,?_,hC,h0⟩;have:=hc 0 _ rfl;rw[Nat.mul_one,Nat.add_zero]at this;exact this
def S2(w:WD)(b:Nat)(x0 x1:Av):Prop:=w.heap[b]?=some (.cells #[x0,x1] 219 (0,0))
theorem S2.cs{w:WD}{b:Nat}{x0 x1:Av}(h:S2 w b x0 x1):w.cell? ⟨b,0,none⟩=some x0/\w.cell? ⟨b,1,none⟩=some x1:=by have h':w.heap[b]?=_:=h;refine⟨?_,?_⟩<;>(unfold World.cell?;rw[h'];rfl)
theorem S2.lt{w:WD}{b:Nat}{x0 x1:Av}(h:S2 w b x0 x1):b<w.heap.size:=(Ay h)
theorem S2.new(w:WD)(x0 x1:Av):S2 (w.alloc (.cells #[x0,x1] 219)) w.heap.size x0 x1:=heap_alloc_new w _
theorem S2.keep{w w':WD}{b:Nat}{x0 x1:Av}(h:S2 w b x0 x1)(hb:w'.heap[b]?=w.heap[b]?):S2 w' b x0 x1:=by show _=_;rw[hb];exact h
structure CwI[bV](w:WD)(cx:List Step)(u:Av)(ps:List BY)(rest:BY)(wr:WD):Prop where
 row:wr.ownsRow w.heap.size 9 1 u ps.length (ps.map Value.string)
 below:Below w.heap.size w wr
 eq:dW cx=aG ps++rest
theorem aam[bV]{cx:List Step}{i:Nat}(h:i<cx.length):dW (cx.drop i)=tV cx[i].1++(vw cx[i].2++dW (cx.drop (i+1))):=by rw[List.drop_eq_getElem_cons h];generalize cx[i]=st;obtain⟨b,all⟩:=st;show(tV b++vw all)++_=_;rw[ByteArray.append_assoc]
theorem agd{cx:List Step}{i:Nat}(h:i<cx.length):zC (cx.drop i)=3+zA cx[i].2+zC (cx.drop (i+1)):=by rw[List.drop_eq_getElem_cons h];generalize cx[i]=st;obtain⟨b,all⟩:=st;rfl
theorem acI:∀(l:List Simple),120*l.length<=zA l
 |[]=>by simp
 |s::r=>by have:=acI r;obtain⟨k,nm,how,v,l,p⟩:=s;unfold zA zS;simp only[List.length_cons];omega
theorem aan[bV]{l:List Simple}{i:Nat}(h:i<l.length):vw (l.drop i)=Am l[i]++vw (l.drop (i+1)):=by rw[List.drop_eq_getElem_cons h];rfl
theorem ai8:∀(cx:List Step) (i:Nat) (_:qkC cx) (h:i<cx.length),CP cx[i].2
 |(b,all)::r,0,h,_=>by simp only[qkC]at h;exact h.2.1
 |(b,all)::r,i+1,h,hi=>by simp only[qkC]at h;exact(acw r i h.2.2 (by simpa using hi)).2
theorem acJ:∀(l:List Simple) (i:Nat) (h:i<l.length),zS l[i]<=zA l
 |s::r,0,_=>by unfold zA;simp
 |s::r,i+1,h=>by have:=acJ r i (by simpa using h);unfold zA;simp only[List.getElem_cons_succ];omega
def QX [bV] (f B : Nat) (w : WD) : Prop := ∀ (s : Simple) (pv : Av) (w' : WD), Below w.heap.size w w' → aQ f (fun b => b < B) w' s [pv] → qkS s → zS s ≤ 549755813888 → ∃ T u K rcv, pv = .iface T u ∧ (∀ W : WD, (method 503 T u "rinse/selectors.written").run prog W = .ok (K, rcv) W) ∧ (∀ (args : Array Av) (W : WD), (callFunc K args).run prog W = .ok (.enter K args) W) ∧
 Calls prog K #[rcv] w' fun e w''=>e=.returned (.string (Am s))/\Below w'.heap.size w' w''
theorem MS[bV](f B:Nat)(cx:List Step)(v:Av)(w:WD)(h:SG (fO (aQ f)) 2 (fun b=>b<B) w v cx)(hB:B<=w.heap.size)(hP:QX f B w)(hq:qkC cx)(hz:zC cx<=549755813888)(hd:jm):
  Calls prog 191 #[v] w fun e w'=>e=.returned (.string (dW cx))/\Below w.heap.size w w':=by
 have hl:=h.len;have HS:=hid h;have HP:=hid hP;have HQ:=hid hq;have HZ:Hid ((dW cx).size<=549755813888):=Nat.le_trans (qL hd cx hq) hz;have hF:Hid (Fair (fO (aQ f))):=fO.fair (aQ.fair f);have hF2:Hid (Fair (aQ f)):=aQ.fair f;obtain⟨a,cap,rfl⟩:=h.form;clear h hP hq;obtain⟨iS,wK⟩:=info_str;have HI:=hid wK;clear wK;go_in;go_wp2_with fail;go_loopg[3,10] cx.length (fun gg v3 v10 wr=>∃(u:Av) (ps:List BY) (i:Nat),u=v3/\v10=.int .i64 (i:Int)/\i+gg=cx.length/\ps.length+zC (cx.drop i)<=zC cx/\Aside (CwI w cx u ps (dW (cx.drop i)) wr))
 case atStart=>exact⟨_,[],0,rfl,rfl,oo,by simp,World.ownsRow_nil _ _ _ _,Ax,by rw[show aG []=aA from rfl,nJ];rfl⟩
 case round=>
  obtain⟨go,hgo⟩:∃go,go=gk:=⟨_,rfl⟩;obtain⟨u,ps,i,rfl,rfl,hi,hpl,hA⟩:=hrel;have HC:Hid (CwI w cx u ps (dW (cx.drop i)) wr):=hA.o;clear hA;have hsr:=HC.o.below.size;by_cases hlt:i<cx.length
  .have h1:(i:Int)<(cx.length:Int):=oo;obtain⟨g,o,rfl,hL,hcap⟩:=HS.o.here (by rintro rfl;simp at hlt);obtain⟨av,d0,d1,hav,hgB⟩:=hL.stp (i:=i) hlt;have agf:g<B:=hgB;rw[<-HC.o.below.cell (p:=⟨g,_,none⟩) (show g<w.heap.size by omega)]at d0 d1;have HQA:Hid (CP cx[i].2):=ai8 cx i HQ.o hlt;have hzd:=agd hlt;have hza:=acI cx[i].2;have HD:Hid (dW (cx.drop i)=tV cx[i].1++(vw cx[i].2++dW (cx.drop (i+1)))):=aam hlt;obtain⟨⟨cb,all⟩,hst⟩:∃st,st=cx[i]:=⟨_,rfl⟩;rw[<-hst]at d0 hav HD hzd hza HQA;have amw:Hid (CP all):=HQA.o;clear HQA;have hzd':zC (cx.drop i)=3+zA all+zC (cx.drop (i+1)):=hzd;have ang:120*all.length<=zA all:=hza;clear hzd hza;obtain⟨n0,hn0⟩:∃n0,n0=ps.length:=⟨_,rfl⟩;have Hn0:=hid hn0;have hn0z:n0+zC (cx.drop i)<=zC cx:=oo;clear hn0;have HAV:=hid hav
   have hal:=hav.len;obtain⟨la,lc,rfl⟩:=hav.form;clear hst hav hL;have T2:Hid (S2 (wr.alloc (.cells #[.int .i64 (sG cb),.slice la all.length lc] 219)) wr.heap.size (.int .i64 (sG cb)) (.slice la all.length lc)):=S2.new _ _ _;have X2:Hid (Below wr.heap.size wr (wr.alloc (.cells #[.int .i64 (sG cb),.slice la all.length lc] 219))):=Ax.alloc nl _;go_upto_region 5 with fail
   generalize wr.alloc (.cells #[.int .i64 (sG cb),.slice la all.length lc] 219)=w2 at *;obtain⟨gt,mV⟩:=Nm wr.heap.size;have T3:Hid (S2 w2 gt (.int .i64 (sG cb)) (.slice la all.length lc)):=by rw[<-mV.o];exact T2.o
   rw[mV.o];clear T2 d0 d1;obtain⟨a0,a1⟩:=T3.o.cs;have B2:=hid (HC.o.below.trans (X2.o.mono hsr));have O2:Hid (w2.ownsRow w.heap.size 9 1 u ps.length (ps.map Value.string)):=aP HC.o.row fun r hr=>X2.o.block r (HC.o.row.lt r hr).2;have hs2:=X2.o.size;go_wp2_with fail;refine pmb (af7 cb _) fun wq hwq=>?_;rw[hwq];clear hwq;go_wp2_with(at_builtin;go_must(refine wpList_append_own _ rfl _ _ 26 rfl w.heap.size 9 iS (.string ⟨#[]⟩) 1 16 Tryz.underlying26 HI.o.1 HI.o.2.1 HI.o.2.2.1 HI.o.2.2.2 rfl oo u ps.length (ps.map Value.string) rfl (O2.o.alloc _) ⟨w2.heap.size,0,none⟩ 1 1 [.string (tV cb)] rfl rfl (cell_one_new _ _ _) (aT _) As oo An ?_));intro v4 w4 hown4 dS _;have hne:u.ownBlock≠some gt:=fun e=>by have:=(HC.o.row.lt gt e).2;have:=mV.o;omega
   have hlo:∀rr,u.ownBlock=some rr->w.heap.size<=rr:=fun rr hr=>(O2.o.lt rr hr).1;have hb4:Below w.heap.size w2 w4:=(Ax.alloc oo _).grown dS An hlo;have T4:Hid (S2 w4 gt (.int .i64 (sG cb)) (.slice la all.length lc)):=T3.o.keep (by rw[dS.block gt (by simp;have:=T3.o.lt;omega) (fun e=>hne e.symm),Below.heap_alloc _ _ _ T3.o.lt]);have FZ:Hid (CwI w cx v4 (ps++[tV cb]) (vw all++dW (cx.drop (i+1))) w4):=⟨by first|(rw[List.length_append,List.map_append];exact hown4)|simpa using hown4,B2.o.trans hb4,by rw[HC.o.eq,HD.o,dw,ByteArray.append_assoc]⟩;have anh:(ps++[tV cb]).length<=n0+1:=by have:=Hn0.o;simp;omega
   clear hown4 dS hb4 hne hlo a0 a1;obtain⟨a0,a1⟩:=T4.o.cs;go_wp2_with fail;go_loopg[3,23] all.length (fun gg v3 v23 wr=>∃(u:Av) (ps:List BY) (m:Nat),u=v3/\v23=.int .i64 (m:Int)/\m+gg=all.length/\ps.length<=n0+1+m/\Aside (CwI w cx u ps (vw (all.drop m)++dW (cx.drop (i+1))) wr));case atStart=>exact⟨_,ps++[tV cb],0,rfl,rfl,oo,oo,FZ.o⟩
   case round=>
    obtain⟨gi,hgi⟩:∃gi,gi=gk:=⟨_,rfl⟩;obtain⟨u,ps,m,rfl,rfl,hm,hpl,hA⟩:=hrel;have xg:Hid (CwI w cx u ps (vw (all.drop m)++dW (cx.drop (i+1))) wr):=hA.o;clear hA;by_cases hlm:m<all.length
    .have h2:(m:Int)<(all.length:Int):=oo;have ai9:=xg.o.below.size;have QY:=HAV.o.below hF2.o xg.o.below hB;obtain⟨g5,o5,rfl,hL5,hcap5⟩:=QY.here (by rintro rfl;simp at hlm);obtain⟨pv,c5,hps,_⟩:=hL5.prt (i:=m) hlm;have HAD:Hid (vw (all.drop m)=Am all[m]++vw (all.drop (m+1))):=aan hlm;have hqs:=acy all m amw.o hlm;have hzs:=acJ all m hlm;obtain⟨s,hs⟩:∃s,s=all[m]:=⟨_,rfl⟩;rw[<-hs]at hps HAD hqs hzs;clear hs hL5 QY;obtain⟨T,pu,K,rcv,rfl,YD,hcall,hC⟩:=HP.o s pv wr xg.o.below hps hqs oo;have sH:=hid hC;clear hps hqs hzs hC;go_wp2_with fail;refine sH.o.mono ?_;rintro e w6 ⟨rfl,hb6⟩;have B6:=hid (xg.o.below.trans (hb6.mono ai9))
     have O6:Hid (w6.ownsRow w.heap.size 9 1 u ps.length (ps.map Value.string)):=aP xg.o.row fun r hr=>hb6.block r (xg.o.row.lt r hr).2;have hs6:=B6.o.size;clear hb6 sH YD hcall c5;go_wp2_with(at_builtin;go_must(refine wpList_append_own _ rfl _ _ 26 rfl w.heap.size 9 iS (.string ⟨#[]⟩) 1 16 Tryz.underlying26 HI.o.1 HI.o.2.1 HI.o.2.2.1 HI.o.2.2.2 rfl oo u ps.length (ps.map Value.string) rfl (O6.o.alloc _) ⟨w6.heap.size,0,none⟩ 1 1 [.string (Am s)] rfl rfl (cell_one_new _ _ _) (aT _) As oo An ?_));intro v7 w7 wM Es _;have Q7:∀rr,u.ownBlock=some rr->w.heap.size<=rr:=fun rr hr=>(O6.o.lt rr hr).1
     have HC7:Hid (CwI w cx v7 (ps++[Am s]) (vw (all.drop (m+1))++dW (cx.drop (i+1))) w7):=⟨by first|(rw[List.length_append,List.map_append];exact wM)|simpa using wM,(B6.o.alloc hs6 _).grown Es An Q7,by rw[xg.o.eq,HAD.o,dw,ByteArray.append_assoc,ByteArray.append_assoc]⟩;have amx:(ps++[Am s]).length<=n0+1+(m+1):=by simp;omega
     clear wM Es Q7;go_wp2_with fail;go_roundg(gi-1);case measure=>omega
     case rel=>exact⟨_,ps++[Am s],m+1,rfl,by congr 1,oo,amx,HC7.o⟩
    .have h2:(all.length:Int)<=(m:Int):=oo;have OA:Hid (CwI w cx u ps (dW (cx.drop (i+1))) wr):=⟨xg.o.row,xg.o.below,by rw[xg.o.eq,List.drop_of_length_le oo];show _++(aA++_)=_;rw[nJ]⟩;go_wp2_with fail;go_roundg(go-1);case measure=>omega
     case rel=>exact⟨_,ps,i+1,rfl,by congr 1,oo,oo,OA.o⟩
  .have h1:(cx.length:Int)<=(i:Int):=oo;have HV:Hid (aG ps=dW cx):=by
    show _=_;rw[HC.o.eq,List.drop_of_length_le oo];exact(mO _).symm
   have hpt:total ps<=549755813888:=by rw[<-oQ,HV.o];exact HZ.o
   go_wp2_with fail;refine pmb (dQ ps w.heap.size u _ HC.o.row oo oo) fun w5 hb5=>?_;have B5:=hid (HC.o.below.trans (hb5.mono hsr));clear hb5;go_wp2_with fail;go_ret;exact⟨mg HV.o,B5.o⟩
theorem aja (W : WD) : (method 503 311 (.agg #[]) "rinse/selectors.written").run prog W = .ok (333, .agg #[]) W := by kernel_rfl
theorem m_tag (nm : BY) (W : WD) : (method 503 309 (.agg #[.string nm]) "rinse/selectors.written").run prog W = .ok (327, .agg #[.string nm]) W := by kernel_rfl
theorem amy (nm : BY) (W : WD) : (method 503 332 (.agg #[.string nm]) "rinse/selectors.written").run prog W = .ok (336, .agg #[.string nm]) W := by kernel_rfl
theorem agh (nm : BY) (W : WD) : (method 503 333 (.agg #[.string nm]) "rinse/selectors.written").run prog W = .ok (340, .agg #[.string nm]) W := by kernel_rfl
theorem agi (nm : BY) (W : WD) : (method 503 343 (.agg #[.string nm]) "rinse/selectors.written").run prog W = .ok (358, .agg #[.string nm]) W := by kernel_rfl
theorem ajb (nm h v : BY) (W : WD) : (method 503 341 (.agg #[.string nm, .string h, .string v]) "rinse/selectors.written").run prog W = .ok (344, .agg #[.string nm, .string h, .string v]) W := by kernel_rfl
theorem OB (nm : BY) (n : Int) (W : WD) : (method 503 351 (.agg #[.string nm, .int .i64 n]) "rinse/selectors.written").run prog W = .ok (374, .agg #[.string nm, .int .i64 n]) W := by kernel_rfl
theorem ak4 (la : Option Addr) (ll lc : Nat) (W : WD) : (method 503 345 (.agg #[.slice la ll lc]) "rinse/selectors.written").run prog W = .ok (367, .agg #[.slice la ll lc]) W := by kernel_rfl
theorem amA (la : Option Addr) (ll lc : Nat) (W : WD) : (method 503 346 (.agg #[.slice la ll lc]) "rinse/selectors.written").run prog W = .ok (371, .agg #[.slice la ll lc]) W := by kernel_rfl
def Road (pv : Av) (o : BY) (w : WD) : Prop := ∃ T u K rcv, pv = .iface T u ∧ (∀ W : WD, (method 503 T u "rinse/selectors.written").run prog W = .ok (K, rcv) W) ∧ (∀ (args : Array Av) (W : WD), (callFunc K args).run prog W = .ok (.enter K args) W) ∧
 Calls prog K #[rcv] w fun e w''=>e=.returned (.string o)/\Below w.heap.size w w''
theorem road[bV](k:Nat)(nm how v:BY)(l:bY)(p:Nat)(la:Option Addr)(ll lc:Nat)(w:WD)(hq:PrN k nm how v p)(hI:jD w)(hd:jm)(hz:(jV aA l).size<=549755813888)
  (hL:∀w',Below w.heap.size w w'->Calls prog 324 #[.slice la ll lc] w' fun e w''=>e=.returned (.string (jV aA l))/\Below w'.heap.size w' w''):
  Road (fE k nm how v (.slice la ll lc) p) (Am (.mk k nm how v l p)) w:=by
 have hn:=hq.nmz;unfold fE;conv=>arg 2;unfold Am
 by_cases k1:k=116
 .rw[if_pos k1,if_pos k1];by_cases e:nm=aA
  .rw[if_pos e,if_pos e];exact⟨_,_,_,_,rfl,aja,fun _ _=>rfl,af8 w⟩
  .rw[if_neg e,if_neg e];exact⟨_,_,_,_,rfl,m_tag nm,fun _ _=>rfl,ai1 nm w hn⟩
 rw[if_neg k1,if_neg k1];by_cases k2:k=35
 .rw[if_pos k2,if_pos k2];exact⟨_,_,_,_,rfl,amy nm,fun _ _=>rfl,akX nm w hn⟩
 rw[if_neg k2,if_neg k2];by_cases k3:k=46
 .rw[if_pos k3,if_pos k3];exact⟨_,_,_,_,rfl,agh nm,fun _ _=>rfl,acr nm w hn⟩
 rw[if_neg k3,if_neg k3];by_cases k4:k=91
 .rw[if_pos k4,if_pos k4];exact⟨_,_,_,_,rfl,ajb nm how v,fun _ _=>rfl,af9 nm how v w hn hq.hwz hq.val⟩
 rw[if_neg k4,if_neg k4];by_cases k5:nm=nD
 .rw[if_pos k5,if_pos (.inl k5)];subst k5;exact⟨_,_,_,_,rfl,ak4 la ll lc,fun _ _=>rfl,ai3 la ll lc _ w hz hL⟩
 rw[if_neg k5];by_cases k6:nm=DY
 .rw[if_pos k6,if_pos (.inr k6)];subst k6;exact⟨_,_,_,_,rfl,amA la ll lc,fun _ _=>rfl,akY la ll lc _ w hz hL⟩
 rw[if_neg k6,if_neg (show ¬(nm=nD\/nm=DY) from fun h=>h.elim k5 k6)];by_cases k7:nm=nG
 .rw[if_pos k7,if_pos k7];subst k7;by_cases p0:p=0
  .rw[if_pos p0,if_pos p0];exact⟨_,_,_,_,rfl,OB sZ 0,fun _ _=>rfl,QJ sZ w (by rw[fC];rfl) Al⟩
  rw[if_neg p0,if_neg p0];by_cases p1:p=1
  .rw[if_pos p1,if_pos p1];exact⟨_,_,_,_,rfl,OB l7 0,fun _ _=>rfl,QJ l7 w (by rw[fC];rfl) Al⟩
  rw[if_neg p1,if_neg p1];have hp:=hq.place;exact⟨_,_,_,_,rfl,OB aA _,fun _ _=>rfl,acu (p-2) w oo hI (hd _ oo)⟩
 rw[if_neg k7,if_neg k7];exact⟨_,_,_,_,rfl,agi nm,fun _ _=>rfl,acs nm w hn⟩
theorem MV[bV]:∀(r:bY) (c:List Step),jX (b1 44) ((c::r).map dW)=dW c++qC aA r
 |[],c=>by show dW c=dW c++qC aA [];unfold qC;exact(mO _).symm
 |d::q,c=>by
  have ih:=MV q d;show dW c++(b1 44++jX (b1 44) ((d::q).map dW))=_;rw[ih];conv=>rhs;unfold qC
  rw[nJ]
theorem acK[bV](ss:bY):jX (b1 44) (ss.map dW)=jV aA ss:=by
 cases ss with
 |nil=>rfl
 |cons c r=>rw[MV];unfold jV;rw[nJ]
theorem YE[bV](hd:jm):∀(ss:bY),CO ss->total (ss.map dW)+ss.length<=zL ss
 |[],_=>by simp[total]
 |c::r,hq=>by simp only[CO]at hq;have:=YE hd r hq.2;have:=qL hd c hq.1;unfold zL;simp only[List.map_cons,total,List.length_cons];omega
theorem VR:∀(ss:bY) (i:Nat) (h:i<ss.length),zC ss[i]<=zL ss
 |c::r,0,_=>by unfold zL;simp;omega
 |c::r,i+1,h=>by have:=VR r i (by simpa using h);unfold zL;simp only[List.getElem_cons_succ];omega
theorem LG.cpx{f:Nat}{S:Nat->Prop}{w:WD}{l:bY}{g o i:Nat}(h:LG (AA (aQ f)) 1 S w l g o)(hi:i<l.length):∃cv,w.cell? ⟨g,o+i,none⟩=some cv/\SG (fO (aQ f)) 2 S w cv l[i]:=by obtain⟨h0,cs,⟨cv,rfl,hs⟩,hc⟩:=h.at l g o i hi;refine⟨cv,?_,hs⟩;have:=hc 0 _ rfl;rw[Nat.mul_one,Nat.add_zero]at this;exact this
theorem YF[bV](f B:Nat)(ss:bY)(v:Av)(w:WD)(h:SG (AA (aQ f)) 1 (fun b=>b<B) w v ss)(hB:B<=w.heap.size)(hP:ss≠[]->∀w',Below w.heap.size w w'->QX f B w')(hq:CO ss)(hz:zL ss<=549755813888)(hd:jm):
  Calls prog 324 #[v] w fun e w'=>e=.returned (.string (jV aA ss))/\Below w.heap.size w w':=by
 have hl:=h.len;have HS:=hid h;have HP:=hid hP;have HQ:=hid hq;have hF:Hid (Fair (fO (aQ f))):=fO.fair (aQ.fair f);have Lm:Hid (jX (b1 44) (ss.map dW)=jV aA ss):=acK ss;have htot:=YE hd ss hq;obtain⟨a,cap,rfl⟩:=h.form;clear h hP hq;obtain⟨iS,wK⟩:=info_str;have HI:=hid wK;clear wK;go_in;go_wp2_with fail;go_loopg[3,8] ss.length (fun gg v3 v8 wr=>∃(u:Av) (i:Nat),u=v3/\v8=.int .i64 (i:Int)/\i+gg=ss.length/\Aside (wr.ownsRow w.heap.size 9 1 u i (((ss.take i).map dW).map Value.string)/\Below w.heap.size w wr));case atStart=>exact⟨_,0,rfl,rfl,oo,World.ownsRow_nil _ _ _ _,Ax⟩
 case round=>
  obtain⟨u,i,rfl,rfl,hi,hA⟩:=hrel;have O1:=hid hA.o.1;have B1:=hid hA.o.2;clear hA;have hsr:=B1.o.size;by_cases hlt:i<ss.length
  .have h1:(i:Int)<(ss.length:Int):=oo;obtain⟨g,o,rfl,hL,hcap⟩:=HS.o.here (by rintro rfl;simp at hlt);have hgB:g<B:=(hL.at ss g o i hlt).1;obtain⟨cv,d0,hcv⟩:=hL.cpx (i:=i) hlt;rw[<-B1.o.cell (p:=⟨g,_,none⟩) (show g<w.heap.size by omega)]at d0;have HT:Hid (ss.take (i+1)=ss.take i++[ss[i]]):=List.take_succ_eq_append_getElem hlt;have hqc:=VG ss i HQ.o hlt;have hzc:=VR ss i hlt;obtain⟨cx,hcx⟩:∃c,c=ss[i]:=⟨_,rfl⟩;rw[<-hcx]at hcv HT hqc hzc;obtain⟨ca,cc,rfl⟩:=hcv.form;have HW:Hid (Calls prog 191 #[.slice ca cx.length cc] wr fun e w'=>e=.returned (.string (dW cx))/\Below wr.heap.size wr w'):=
    MS f B cx _ wr (hcv.below hF.o B1.o hB) oo (HP.o (by rintro rfl;simp at hlt) wr B1.o) hqc oo hd
   clear hL hcx hcv hqc hzc;go_wp2_with fail;refine HW.o.mono ?_;obtain⟨x,Hx⟩:=Nm (dW cx);rw[Hx.o];rintro e w2 ⟨rfl,hb2⟩;have B2:=hid (B1.o.trans (hb2.mono hsr));have O2:Hid (w2.ownsRow w.heap.size 9 1 u i (((ss.take i).map dW).map Value.string)):=aP O1.o fun r hr=>hb2.block r (O1.o.lt r hr).2;have hs2:=B2.o.size;clear hb2 HW d0;go_wp2_with(at_builtin;go_must(refine wpList_append_own _ rfl _ _ 26 rfl w.heap.size 9 iS (.string ⟨#[]⟩) 1 16 Tryz.underlying26 HI.o.1 HI.o.2.1 HI.o.2.2.1 HI.o.2.2.2 rfl oo u i (((ss.take i).map dW).map Value.string) rfl (O2.o.alloc _) ⟨w2.heap.size,0,none⟩ 1 1 [.string x] rfl rfl (cell_one_new _ _ _) (aT _) As oo An ?_));intro v4 w4 hown4 dS _
   rw[show List.take i (List.map (Value.string ∘ dW) ss)=List.map Value.string (List.map dW (List.take i ss)) by simp]at hown4;have O4:Hid (w4.ownsRow w.heap.size 9 1 v4 (i+1) (((ss.take (i+1)).map dW).map Value.string)):=by show World.ownsRow _ _ _ _ _ _ _;rw[HT.o,List.map_append,List.map_append,List.map_cons,List.map_nil,Hx.o];exact hown4
   have B4:Hid (Below w.heap.size w w4):=(B2.o.alloc hs2 _).grown dS An (fun rr hr=>(O2.o.lt rr hr).1);clear hown4 dS;go_wp2_with fail;go_roundg(gk-1);case measure=>omega
   case rel=>exact⟨v4,i+1,rfl,by congr 1,oo,O4.o,B4.o⟩
  .have h1:(ss.length:Int)<=(i:Int):=oo;have hie:i=ss.length:=oo;subst hie;have O5:Hid (wr.ownsRow w.heap.size 9 1 u (ss.map dW).length ((ss.map dW).map Value.string)):=by
    have:=O1.o;rw[List.take_of_length_le nl]at this;show World.ownsRow _ _ _ _ _ _ _;rw[List.length_map];exact this
   go_wp2_with fail;refine(Ii (b1 44) (ss.map dW) w.heap.size u _ O5.o (by rw[List.length_map];omega) (by unfold acj;rw[List.length_map];show _+ss.length*1<=_;omega)).mono ?_;rw[Lm.o];rintro e w5 ⟨rfl,hb5⟩;have B5:=hid (B1.o.trans (hb5.mono hsr));clear hb5;go_wp2_with fail;go_ret;exact⟨rfl,B5.o⟩
theorem MX[bV](hd:jm):∀(f B:Nat) (w:WD),jD w->B<=w.heap.size->QX f B w
 |0,B,w,hI,hB=>by intro s pv w' hb hps hq hz;obtain⟨k,nm,how,v,l,p⟩:=s;obtain⟨rfl,a,c,e⟩:=hps;obtain rfl:pv=fE k nm how v (.slice a 0 c) p:=(List.cons.inj e).1;simp only[qkS]at hq;refine road k nm how v [] p a 0 c w' hq.1 (hI.below hb nl) hd (by show 0<=_;omega) ?_;intro w2 hb2;exact YF 0 B [] _ w2 (SG.iE _ _ _ _ _ _) (by have:=hb.size;have:=hb2.size;omega) (fun h=>absurd rfl h) (by simp[CO]) (by show 0<=_;omega) hd
 |f+1,B,w,hI,hB=>by
  intro s pv w' hb hps hq hz;obtain⟨k,nm,how,v,l,p⟩:=s;obtain⟨lv,e,hsg⟩:=hps;obtain rfl:pv=fE k nm how v lv p:=(List.cons.inj e).1;obtain⟨la,lc,rfl⟩:=hsg.form;simp only[qkS]at hq;have hs:=hb.size;have hzl:zL l<=549755813888:=by unfold zS at hz;omega
  refine road k nm how v l p la l.length lc w' hq.1 (hI.below hb nl) hd (Nat.le_trans (Iq hd l hq.2) hzl) ?_;intro w2 hb2;have hs2:=hb2.size;exact YF f B l _ w2 (hsg.below (One.fair (fO.fair (aQ.fair f))) hb2 oo) oo (fun _ w3 hb3=>MX hd f B w3 (((hI.below hb nl).below hb2 nl).below hb3 nl) (by have:=hb3.size;omega)) hq.2 hzl hd
theorem ajc[bV](f B:Nat)(cx:List Step)(v:Av)(w:WD)(h:SG (fO (aQ f)) 2 (fun b=>b<B) w v cx)(hB:B<=w.heap.size)(hI:jD w)(hq:qkC cx)(hz:zC cx<=549755813888)(hd:jm):
  Calls prog 191 #[v] w fun e w'=>e=.returned (.string (dW cx))/\Below w.heap.size w w':=
 MS f B cx v w h hB (MX hd f B w hI hB) hq hz hd
end Go.Proofs.YtlliliddljkbfaaGreat
namespace Go.Proofs.Tryz
open Go.Shelf
def lays215_ren:Go.Shelf.Ren:=⟨fun|215=>301|n=>n,fun|3=>3|4=>4|n=>n,fun|n=>n⟩
open Go.RowKit in
def lays122_ren:Go.Shelf.Ren:=⟨fun|122=>276|215=>301|n=>n,fun|3=>3|4=>4|n=>n,fun|n=>n⟩
theorem lays122:Go.Proofs.Lays.n122 prog lays122_ren:={
 mixed:=by kernel_rfl
 f122:=func276.trans (congrArg some (by kernel_rfl))
 f215:=func301.trans (congrArg some (by kernel_rfl))
 t3:=underlying3
 a3:=isAgg3
 z3:=sizeOf3
 v3:=zeroValue3
 t4:=underlying4
 a4:=isAgg4
 z4:=sizeOf4
 v4:=zeroValue4 }
open Go.RowKit in
theorem cmp_Compare_int(x y:Int)(w:World):
  Calls prog 276 #[.int .i64 x,.int .i64 y] w fun e w'=>e=.returned (.int .i64 (Lib.compareInt x y))/\w'=w:=Any.cmp_Compare_int lays122 x y w
def lays129_ren:Go.Shelf.Ren:=⟨fun|129=>384|n=>n,fun|53=>101|3=>3|4=>4|46=>331|5=>5|9=>9|n=>n,fun|n=>n⟩
theorem lays129:Go.Proofs.Lays.n129 prog lays129_ren:={
 mixed:=by kernel_rfl
 f129:=func384.trans (congrArg some (by kernel_rfl))
 t3:=underlying3
 a3:=isAgg3
 z3:=sizeOf3
 v3:=zeroValue3
 t4:=underlying4
 a4:=isAgg4
 z4:=sizeOf4
 v4:=zeroValue4
 t5:=underlying5
 a5:=isAgg5
 z5:=sizeOf5
 v5:=zeroValue5
 t9:=underlying9
 a9:=isAgg9
 z9:=sizeOf9
 v9:=zeroValue9
 t46:=underlying331
 a46:=isAgg331
 z46:=sizeOf331
 v46:=zeroValue331
 t53:=underlying101
 a53:=isAgg101
 z53:=sizeOf101
 v53:=zeroValue101 }
theorem bits_Len64(x:Int)(w:World)(h0:0<=x)(h1:x<=18446744073709551615):
  Calls prog 384 #[.int .u64 x] w fun e w'=>e=.returned (.int .i64 (Lib.bitLen x.toNat))/\w'=w:=Any.bits_Len64 lays129 x w h0 h1
def lays317_ren:Go.Shelf.Ren:=⟨fun|317=>383|n=>n,fun|3=>3|46=>331|n=>n,fun|n=>n⟩
theorem lays317:Go.Proofs.Lays.n317 prog lays317_ren:={
 mixed:=by kernel_rfl
 f317:=func383.trans (congrArg some (by kernel_rfl))
 t3:=underlying3
 a3:=isAgg3
 z3:=sizeOf3
 v3:=zeroValue3
 t46:=underlying331
 a46:=isAgg331
 z46:=sizeOf331
 v46:=zeroValue331 }
open Go.Lib in
theorem internal_strconv_log10Pow2(x:Nat)(h:x<=64)(w:World):
  Calls prog 383 #[.int .i64 x] w fun e w'=>e=.returned (.int .i64 (Lib.l10 x))/\w'=w:=Any.internal_strconv_log10Pow2 lays317 x h w
def lays318_ren:Go.Shelf.Ren:=⟨fun|318=>385|n=>n,fun|3=>3|4=>4|n=>n,fun|n=>n⟩
theorem lays318:Go.Proofs.Lays.n318 prog lays318_ren:={
 mixed:=by kernel_rfl
 f318:=func385.trans (congrArg some (by kernel_rfl))
 t3:=underlying3
 a3:=isAgg3
 z3:=sizeOf3
 v3:=zeroValue3
 t4:=underlying4
 a4:=isAgg4
 z4:=sizeOf4
 v4:=zeroValue4 }
open Go.Lib in
theorem internal_strconv_bool2_int(b:Bool)(w:World):
  Calls prog 385 #[.bool b] w fun e w'=>e=.returned (.int .i64 (if b then 1 else 0))/\w'=w:=Any.internal_strconv_bool2_int lays318 b w
open Go.Lib in
open Go.Lib in
def lays285_ren:Go.Shelf.Ren:=⟨fun|285=>381|n=>n,fun|37=>145|53=>101|3=>3|4=>4|51=>337|9=>9|5=>5|0=>0|n=>n,fun|n=>n⟩
theorem lays285:Go.Proofs.Lays.n285 prog lays285_ren:={
 mixed:=by kernel_rfl
 f285:=func381.trans (congrArg some (by kernel_rfl))
 t0:=underlying0
 a0:=isAgg0
 z0:=sizeOf0
 v0:=zeroValue0
 t3:=underlying3
 a3:=isAgg3
 z3:=sizeOf3
 v3:=zeroValue3
 t4:=underlying4
 a4:=isAgg4
 z4:=sizeOf4
 v4:=zeroValue4
 t5:=underlying5
 a5:=isAgg5
 z5:=sizeOf5
 v5:=zeroValue5
 t9:=underlying9
 a9:=isAgg9
 z9:=sizeOf9
 v9:=zeroValue9
 t37:=underlying145
 a37:=isAgg145
 z37:=sizeOf145
 v37:=zeroValue145
 t51:=underlying337
 a51:=isAgg337
 z51:=sizeOf337
 v51:=zeroValue337
 t53:=underlying101
 a53:=isAgg101
 z53:=sizeOf101
 v53:=zeroValue101 }
open Go.RowKit Go.Sort Go.Lib in
theorem internal_strconv_formatBase10(blk off cap:Nat)(u:Nat)(d:Array UInt8)(w:World)(hH:Holds (fun(b:UInt8)=>Value.int .u8 (b.toNat:Int)) w blk off d)(hu:u<10 ^ d.size)(hu64:u<18446744073709551616)(hsz:d.size<4611686018427387904):
  Calls prog 381 #[.slice (some ⟨blk,off,none⟩) d.size cap,.int .u64 u] w fun e w'=>e=.returned (.tuple #[])/\∃(n v':Nat) (dk:Array UInt8),w'=(putRow (fun(b:UInt8)=>Value.int .u8 (b.toNat:Int)) w blk off dk).drewN n/\FmtInv d.size u 0 v' dk:=Any.internal_strconv_formatBase10 lays285 blk off cap u d w hH hu hu64 hsz
def laysM246_ren:Go.Shelf.Ren:=⟨fun|246=>378|283=>379|284=>380|285=>381|286=>382|129=>384|317=>383|318=>385|319=>386|320=>387|337=>388|338=>389|n=>n,fun|2=>2|3=>3|9=>9|4=>4|171=>390|0=>0|53=>101|37=>145|5=>5|173=>393|212=>396|51=>337|20=>20|213=>397|46=>331|232=>400|233=>401|n=>n,fun|17=>3|18=>4|19=>5|n=>n⟩
open Go.RowKit Go.Sort Go.Lib in
open Go.RowKit Go.Sort Go.Lib in
def laysM243_ren:Go.Shelf.Ren:=⟨fun|243=>377|246=>378|283=>379|284=>380|285=>381|286=>382|129=>384|317=>383|318=>385|319=>386|320=>387|337=>388|338=>389|n=>n,fun|3=>3|9=>9|2=>2|4=>4|171=>390|0=>0|53=>101|37=>145|5=>5|173=>393|212=>396|51=>337|20=>20|213=>397|46=>331|232=>400|233=>401|n=>n,fun|17=>3|18=>4|19=>5|n=>n⟩
open Go.RowKit Go.Sort Go.Lib in
open Go.RowKit Go.Sort Go.Lib in
def laysM171_ren:Go.Shelf.Ren:=⟨fun|171=>376|243=>377|246=>378|283=>379|284=>380|285=>381|286=>382|129=>384|317=>383|318=>385|319=>386|320=>387|337=>388|338=>389|n=>n,fun|3=>3|9=>9|2=>2|4=>4|171=>390|0=>0|53=>101|37=>145|5=>5|173=>393|212=>396|51=>337|20=>20|213=>397|46=>331|232=>400|233=>401|n=>n,fun|17=>3|18=>4|19=>5|n=>n⟩
open Go.RowKit Go.Sort Go.Lib in
def lays171_ren:Go.Shelf.Ren:=⟨fun|171=>376|243=>377|246=>378|283=>379|284=>380|285=>381|286=>382|129=>384|317=>383|318=>385|319=>386|320=>387|337=>388|338=>389|n=>n,fun|3=>3|9=>9|2=>2|4=>4|171=>390|0=>0|53=>101|37=>145|5=>5|173=>393|212=>396|51=>337|20=>20|213=>397|46=>331|232=>400|233=>401|n=>n,fun|17=>3|18=>4|19=>5|n=>n⟩
theorem lays171:Go.Proofs.Lays.n171 prog lays171_ren:={
 mixed:=by kernel_rfl
 f129:=func384.trans (congrArg some (by kernel_rfl))
 f171:=func376.trans (congrArg some (by kernel_rfl))
 f243:=func377.trans (congrArg some (by kernel_rfl))
 f246:=func378.trans (congrArg some (by kernel_rfl))
 f283:=func379.trans (congrArg some (by kernel_rfl))
 f284:=func380.trans (congrArg some (by kernel_rfl))
 f285:=func381.trans (congrArg some (by kernel_rfl))
 f286:=func382.trans (congrArg some (by kernel_rfl))
 f317:=func383.trans (congrArg some (by kernel_rfl))
 f318:=func385.trans (congrArg some (by kernel_rfl))
 f319:=func386.trans (congrArg some (by kernel_rfl))
 f320:=func387.trans (congrArg some (by kernel_rfl))
 f337:=func388.trans (congrArg some (by kernel_rfl))
 f338:=func389.trans (congrArg some (by kernel_rfl))
 t0:=underlying0
 a0:=isAgg0
 z0:=sizeOf0
 v0:=zeroValue0
 t2:=underlying2
 a2:=isAgg2
 z2:=sizeOf2
 v2:=zeroValue2
 t3:=underlying3
 a3:=isAgg3
 z3:=sizeOf3
 v3:=zeroValue3
 t4:=underlying4
 a4:=isAgg4
 z4:=sizeOf4
 v4:=zeroValue4
 t5:=underlying5
 a5:=isAgg5
 z5:=sizeOf5
 v5:=zeroValue5
 t9:=underlying9
 a9:=isAgg9
 z9:=sizeOf9
 v9:=zeroValue9
 t20:=underlying20
 a20:=isAgg20
 z20:=sizeOf20
 v20:=zeroValue20
 t37:=underlying145
 a37:=isAgg145
 z37:=sizeOf145
 v37:=zeroValue145
 t46:=underlying331
 a46:=isAgg331
 z46:=sizeOf331
 v46:=zeroValue331
 t51:=underlying337
 a51:=isAgg337
 z51:=sizeOf337
 v51:=zeroValue337
 t53:=underlying101
 a53:=isAgg101
 z53:=sizeOf101
 v53:=zeroValue101
 t171:=underlying390
 a171:=isAgg390
 z171:=sizeOf390
 v171:=zeroValue390
 t173:=underlying393
 a173:=isAgg393
 z173:=sizeOf393
 v173:=zeroValue393
 t212:=underlying396
 a212:=isAgg396
 z212:=sizeOf396
 v212:=zeroValue396
 t213:=underlying397
 a213:=isAgg397
 z213:=sizeOf397
 t232:=underlying400
 a232:=isAgg400
 z232:=sizeOf400
 v232:=zeroValue400
 t233:=underlying401
 a233:=isAgg401
 z233:=sizeOf401
 v233:=zeroValue401
 g17:=by kernel_rfl
 g18:=by kernel_rfl
 g19:=by kernel_rfl }
open Go.RowKit Go.Sort Go.Lib in
theorem strconv_Itoa_small(i:Nat)(hi:i<100)(w:World):
  Calls prog 376 #[.int .i64 i] w fun e w'=>e=.returned (.string ⟨(Lib.decDigits i).toArray⟩)/\w'=w:=Any.strconv_Itoa_small lays171 i hi w
open Go.RowKit Go.Lib in
open Go.RowKit Go.Lib in
open Go.RowKit Go.Lib in
open Go.RowKit Go.Lib in
def lays219_ren:Go.Shelf.Ren:=⟨fun|219=>235|217=>283|225=>284|224=>285|267=>286|266=>302|314=>303|n=>n,fun|9=>9|3=>3|4=>4|5=>5|46=>331|146=>338|51=>337|n=>n,fun|1=>0|n=>n⟩
open Go.RowKit Go.Lib in
open Go.RowKit Go.Lib in
def lays143_ren:Go.Shelf.Ren:=⟨fun|143=>174|219=>235|217=>283|225=>284|224=>285|267=>286|266=>302|314=>303|n=>n,fun|9=>9|3=>3|4=>4|5=>5|46=>331|146=>338|51=>337|n=>n,fun|1=>0|n=>n⟩
theorem lays143:Go.Proofs.Lays.n143 prog lays143_ren:={
 mixed:=by kernel_rfl
 f143:=func174.trans (congrArg some (by kernel_rfl))
 f217:=func283.trans (congrArg some (by kernel_rfl))
 f219:=func235.trans (congrArg some (by kernel_rfl))
 f224:=func285.trans (congrArg some (by kernel_rfl))
 f225:=func284.trans (congrArg some (by kernel_rfl))
 f266:=func302.trans (congrArg some (by kernel_rfl))
 f267:=func286.trans (congrArg some (by kernel_rfl))
 f314:=func303.trans (congrArg some (by kernel_rfl))
 t3:=underlying3
 a3:=isAgg3
 z3:=sizeOf3
 v3:=zeroValue3
 t4:=underlying4
 a4:=isAgg4
 z4:=sizeOf4
 v4:=zeroValue4
 t5:=underlying5
 a5:=isAgg5
 z5:=sizeOf5
 v5:=zeroValue5
 t9:=underlying9
 a9:=isAgg9
 z9:=sizeOf9
 v9:=zeroValue9
 t46:=underlying331
 a46:=isAgg331
 z46:=sizeOf331
 v46:=zeroValue331
 t51:=underlying337
 a51:=isAgg337
 z51:=sizeOf337
 v51:=zeroValue337
 t146:=underlying338
 a146:=isAgg338
 z146:=sizeOf338
 v146:=zeroValue338
 g1:=by kernel_rfl }
open Go.RowKit Go.Lib in
open Go.RowKit Go.Lib in
theorem strings_Index(s sub:ByteArray)(m:Int)(w:World)(hs:s.size<4294967281)(hm:w.cell? ⟨0,0,none⟩=some (.int .i64 m)):
  Calls prog 174 #[.string s,.string sub] w fun e w'=>e=.returned (.int .i64 (Lib.index s.data.toList sub.data.toList))/\w'=w:=Any.strings_Index lays143 s sub m w hs hm
def lays144_ren:Go.Shelf.Ren:=⟨fun|144=>349|143=>174|219=>235|217=>283|225=>284|224=>285|267=>286|266=>302|314=>303|n=>n,fun|9=>9|4=>4|3=>3|5=>5|46=>331|146=>338|51=>337|n=>n,fun|1=>0|n=>n⟩
theorem lays144:Go.Proofs.Lays.n144 prog lays144_ren:={
 mixed:=by kernel_rfl
 f143:=func174.trans (congrArg some (by kernel_rfl))
 f144:=func349.trans (congrArg some (by kernel_rfl))
 f217:=func283.trans (congrArg some (by kernel_rfl))
 f219:=func235.trans (congrArg some (by kernel_rfl))
 f224:=func285.trans (congrArg some (by kernel_rfl))
 f225:=func284.trans (congrArg some (by kernel_rfl))
 f266:=func302.trans (congrArg some (by kernel_rfl))
 f267:=func286.trans (congrArg some (by kernel_rfl))
 f314:=func303.trans (congrArg some (by kernel_rfl))
 t3:=underlying3
 a3:=isAgg3
 z3:=sizeOf3
 v3:=zeroValue3
 t4:=underlying4
 a4:=isAgg4
 z4:=sizeOf4
 v4:=zeroValue4
 t5:=underlying5
 a5:=isAgg5
 z5:=sizeOf5
 v5:=zeroValue5
 t9:=underlying9
 a9:=isAgg9
 z9:=sizeOf9
 v9:=zeroValue9
 t46:=underlying331
 a46:=isAgg331
 z46:=sizeOf331
 v46:=zeroValue331
 t51:=underlying337
 a51:=isAgg337
 z51:=sizeOf337
 v51:=zeroValue337
 t146:=underlying338
 a146:=isAgg338
 z146:=sizeOf338
 v146:=zeroValue338
 g1:=by kernel_rfl }
open Go.RowKit Go.Lib in
open Go.RowKit Go.Lib in
theorem strings_Contains(s sub:ByteArray)(m:Int)(w:World)(hs:s.size<4294967281)(hm:w.cell? ⟨0,0,none⟩=some (.int .i64 m)):
  Calls prog 349 #[.string s,.string sub] w fun e w'=>e=.returned (.bool (Lib.contains s.data.toList sub.data.toList))/\w'=w:=Any.strings_Contains lays144 s sub m w hs hm
open Go.RowKit Go.Lib in
open Go.RowKit Go.Lib in
open Go.RowKit Go.Lib in
def lays206_ren:Go.Shelf.Ren:=⟨fun|206=>169|n=>n,fun|9=>9|4=>4|3=>3|n=>n,fun|n=>n⟩
open Go.RowKit Go.Lib in
def lays99_ren:Go.Shelf.Ren:=⟨fun|99=>105|206=>169|n=>n,fun|9=>9|4=>4|3=>3|n=>n,fun|n=>n⟩
theorem lays99:Go.Proofs.Lays.n99 prog lays99_ren:={
 mixed:=by kernel_rfl
 f99:=func105.trans (congrArg some (by kernel_rfl))
 f206:=func169.trans (congrArg some (by kernel_rfl))
 t3:=underlying3
 a3:=isAgg3
 z3:=sizeOf3
 v3:=zeroValue3
 t4:=underlying4
 a4:=isAgg4
 z4:=sizeOf4
 v4:=zeroValue4
 t9:=underlying9
 a9:=isAgg9
 z9:=sizeOf9
 v9:=zeroValue9 }
open Go.RowKit Go.Lib in
theorem strings_HasPrefix(s p:ByteArray)(w:World):
  Calls prog 105 #[.string s,.string p] w fun e w'=>e=.returned (.bool (Lib.hasPrefix s.data.toList p.data.toList))/\w'=w:=Any.strings_HasPrefix lays99 s p w
open Go.RowKit Go.Lib in
def lays100_ren:Go.Shelf.Ren:=⟨fun|100=>348|207=>352|n=>n,fun|9=>9|4=>4|3=>3|n=>n,fun|n=>n⟩
theorem lays100:Go.Proofs.Lays.n100 prog lays100_ren:={
 mixed:=by kernel_rfl
 f100:=func348.trans (congrArg some (by kernel_rfl))
 f207:=func352.trans (congrArg some (by kernel_rfl))
 t3:=underlying3
 a3:=isAgg3
 z3:=sizeOf3
 v3:=zeroValue3
 t4:=underlying4
 a4:=isAgg4
 z4:=sizeOf4
 v4:=zeroValue4
 t9:=underlying9
 a9:=isAgg9
 z9:=sizeOf9
 v9:=zeroValue9 }
open Go.RowKit Go.Lib in
theorem strings_HasSuffix(s p:ByteArray)(w:World)(hs:s.size<=9223372036854775807):
  Calls prog 348 #[.string s,.string p] w fun e w'=>e=.returned (.bool (Lib.hasSuffix s.data.toList p.data.toList))/\w'=w:=Any.strings_HasSuffix lays100 s p w hs
open Go.RowKit Go.Lib in
open Go.RowKit Go.Lib in
open Go.RowKit Go.Lib in
open Go.RowKit Go.Lib in
open Go.RowKit Go.Lib in
open Go.RowKit Go.Lib in
open Go.RowKit Go.Lib in
open Go.RowKit Go.Lib in
open Go.RowKit Go.Lib in
open Go.RowKit Go.Lib in
open Go.RowKit Go.Lib in
open Go.RowKit Go.Lib in
open Go.RowKit Go.Lib in
open Go.RowKit Go.Lib in
open Go.RowKit Go.Lib in
open Go.RowKit Go.Lib in
open Go.Lib in
open Go.Lib in
def lays107_ren:Go.Shelf.Ren:=⟨fun|107=>186|108=>246|n=>n,fun|28=>31|3=>3|4=>4|0=>0|n=>n,fun|n=>n⟩
theorem lays107:Go.Proofs.Lays.n107 prog lays107_ren:={
 mixed:=by kernel_rfl
 f107:=func186.trans (congrArg some (by kernel_rfl))
 f108:=func246.trans (congrArg some (by kernel_rfl))
 t0:=underlying0
 a0:=isAgg0
 z0:=sizeOf0
 v0:=zeroValue0
 t3:=underlying3
 a3:=isAgg3
 z3:=sizeOf3
 v3:=zeroValue3
 t4:=underlying4
 a4:=isAgg4
 z4:=sizeOf4
 v4:=zeroValue4
 t28:=underlying31
 a28:=isAgg31
 z28:=sizeOf31
 v28:=zeroValue31 }
open Go.Lib in
theorem slices_Contains_int(b off n c:Nat)(zs:List Int)(x:Int)(w:World)(hz:n<=zs.length)(hbig:n<=9223372036854775807)(hc:∀j,j<zs.length->w.cell? ⟨b,off+j,none⟩=some (.int .i64 (zs.getD j 0))):
  Calls prog 186 #[.slice (some ⟨b,off,none⟩) n c,.int .i64 x] w fun e w'=>e=.returned (.bool ((zs.take n).contains x))/\w'=w:=Any.slices_Contains_int lays107 b off n c zs x w hz hbig hc
open Go.Lib in
open Go.Lib in
open Go.Lib in
def lays110_ren:Go.Shelf.Ren:=⟨fun|110=>188|109=>247|n=>n,fun|31=>26|9=>9|4=>4|3=>3|0=>0|n=>n,fun|n=>n⟩
theorem lays110:Go.Proofs.Lays.n110 prog lays110_ren:={
 mixed:=by kernel_rfl
 f109:=func247.trans (congrArg some (by kernel_rfl))
 f110:=func188.trans (congrArg some (by kernel_rfl))
 t0:=underlying0
 a0:=isAgg0
 z0:=sizeOf0
 v0:=zeroValue0
 t3:=underlying3
 a3:=isAgg3
 z3:=sizeOf3
 v3:=zeroValue3
 t4:=underlying4
 a4:=isAgg4
 z4:=sizeOf4
 v4:=zeroValue4
 t9:=underlying9
 a9:=isAgg9
 z9:=sizeOf9
 v9:=zeroValue9
 t31:=underlying26
 a31:=isAgg26
 z31:=sizeOf26
 v31:=zeroValue26 }
open Go.Lib in
theorem slices_Contains_string(b off n c:Nat)(zs:List ByteArray)(x:ByteArray)(w:World)(hz:n<=zs.length)(hbig:n<=9223372036854775807)(hc:∀j,j<zs.length->w.cell? ⟨b,off+j,none⟩=some (.string (zs.getD j ByteArray.empty))):
  Calls prog 188 #[.slice (some ⟨b,off,none⟩) n c,.string x] w fun e w'=>e=.returned (.bool (Lib.containsS (zs.take n) x))/\w'=w:=Any.slices_Contains_string lays110 b off n c zs x w hz hbig hc
open Go.Lib in
theorem slices_Contains_string_empty(a:Option Addr)(c:Nat)(x:ByteArray)(w:World):
  Calls prog 188 #[.slice a 0 c,.string x] w fun e w'=>e=.returned (.bool false)/\w'=w:=Any.slices_Contains_string_empty lays110 a c x w
end Go.Proofs.Tryz
