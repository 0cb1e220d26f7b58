import Derived.Test.YtlliliddljkbfaaGreatC29
import Derived.Laws.AppendOwnNone
import Derived.Deep.Upon
set_option maxHeartbeats 64000000
set_option maxRecDepth 100000
namespace Go.Proofs.YtlliliddljkbfaaGreat
open Go.Proofs.Tryz (prog)
open Go.RowKit Sp
section
attribute [local go_sem] bI bJ aX aY
theorem aff{w:WD}{base e s n:Nat}{v:Av}{xs:List Av}(h:w.ownsRow base e s v n xs){g:Nat}(hg:v.ownBlock=some g):∃cur,w.heap[g]?=some (.cells cur e (0,0)):=by
 rcases h.2 with⟨rfl,_⟩|⟨g',cap,cur,rfl,_,hh,_⟩
 .cases hg
 .cases hg;exact⟨cur,hh⟩
def dM(l:List BY):List Av:=l.map Value.string
theorem qU{w:WD}{base:Nat}{u:Av}{l:List BY}(h:w.ownsRow base 9 1 u l.length (dM l)):(u=.slice none 0 0/\l=[])\/∃g c,u=.slice (some ⟨g,0,none⟩) l.length c/\∀j x,(dM l)[j]?=some x->w.cell? ((⟨g,0,none⟩:Addr).add j)=some x:=by
 have hc:=fun g=>h.cells (g:=g);rcases h.2 with⟨rfl,hn⟩|⟨g,cap,cur,rfl,hrest⟩
 .exact .inl ⟨rfl,List.eq_nil_of_length_eq_zero hn⟩
 .exact .inr ⟨g,cap,rfl,hc g rfl⟩
def UJ(l:List Nd):Prop:=∀(B:Nat) (v:Av) (w:WD),Sl (fun b=>b<B) w v l->B<=w.heap.size->dL l<=1000000 ->
 Calls prog 232 #[v] w fun e w'=>(∃u,e=.returned u/\w'.ownsRow w.heap.size 9 1 u (lW l).length (dM (lW l)))/\Below w.heap.size w w'
theorem afg{l:List Nd}{i:Nat}(h:i<l.length):lW (l.drop i)=((if kD l[i].t=true then nmV l[i].kids else [])++lW l[i].kids)++lW (l.drop (i+1)):=by rw[List.drop_eq_getElem_cons h,yM,XT]
theorem yP{w w':WD}{base:Nat}{u:Av}{l:List BY}(h:w.ownsRow base 9 1 u l.length (dM l))(hb:Below w.heap.size w w'):w'.ownsRow base 9 1 u l.length (dM l):=aP h fun r hr=>hb.block r (h.lt r hr).2
theorem abI{l:List Nd}(h:dL l<=1000000):(lW l).length<=1000000:=Nat.le_trans (DT l) h
theorem UK(l:List Nd)(hrec:∀n∈l,UJ n.kids):UJ l:=by
 intro B v w h hB hz;have FU:=h.len;have HS:=hid h;have HRC:Hid (∀n∈l,UJ n.kids):=hrec;have hzn:=abI hz;obtain⟨a,cap,rfl⟩:=h.form;clear h hrec;obtain⟨iS,wK⟩:=info_str;have HI:Hid (prog.info? 9=some iS/\iS.zero=some (.string ⟨#[]⟩)/\iS.size=1/\iS.bytes=16):=wK;clear wK;obtain⟨R,HR⟩:=Nm (lW l);rw[HR.o]at hzn;rw[HR.o];go_in;go_wp2_with fail;go_loopg[3,10] l.length (fun gg v3 v10 wr=>∃(u:Av) (acc:List BY) (i:Nat),u=v3/\v10=.int .i64 (i:Int)/\i+gg=l.length/\Aside (wr.ownsRow w.heap.size 9 1 u acc.length (dM acc)/\acc++lW (l.drop i)=R/\Below w.heap.size w wr));case atStart=>exact⟨_,[],0,rfl,rfl,oo,World.ownsRow_nil _ _ _ _,HR.o,Ax⟩
 case round=>
  obtain⟨u,acc,i,rfl,rfl,hi,hA⟩:=hrel;have HO:Hid (wr.ownsRow w.heap.size 9 1 u acc.length (dM acc)):=hA.o.1;have HE0:Hid (acc++lW (l.drop i)=R):=hA.o.2.1;have HB:=hid hA.o.2.2;clear hA;have hsr:=HB.o.size;obtain⟨ua,uc,rfl⟩:=kQ HO.o;by_cases hlt:i<l.length
  .have h1:(i:Int)<(l.length:Int):=oo;obtain⟨g1,o,rfl,hL,hcap⟩:=(HS.o.below HB.o hB).here (by rintro rfl;simp at hlt);obtain⟨kv,hN⟩:=hL.node (i:=i) hlt;have HRN:=hid (HRC.o l[i] (List.getElem_mem hlt));have hzk:dL l[i].kids<=1000000:=by
    have q1:=nK l l[i] (List.getElem_mem hlt);have q2:=Sp.gY l[i];omega
   have HD0:=afg hlt;rw[HD0]at HE0;clear HD0;generalize l[i]=n at *;obtain⟨c0,c1,c2,c3⟩:_/\_/\_/\_:=⟨hN.c0,hN.c1,hN.c2,hN.c3⟩;have hw:=hN.ok.word;obtain⟨ka,kc,rfl⟩:=hN.k.form;have HK:=hid hN.k;clear hN hL;have A2:Hid (VB (wr.alloc (.cells #[.int .i64 n.t.kind,.string n.t.word,.string n.t.unit,.slice ka n.kids.length kc] 199)) wr.heap.size (.int .i64 n.t.kind) (.string n.t.word) (.string n.t.unit) (.slice ka n.kids.length kc)):=VB.new _ _ _ _ _;have X2:Hid (Below wr.heap.size wr (wr.alloc (.cells #[.int .i64 n.t.kind,.string n.t.word,.string n.t.unit,.slice ka n.kids.length kc] 199))):=Ax.alloc nl _;go_upto_region 5 with fail
   generalize wr.alloc (.cells #[.int .i64 n.t.kind,.string n.t.word,.string n.t.unit,.slice ka n.kids.length kc] 199)=w2 at *;obtain⟨nb,Gi⟩:=Nm wr.heap.size;have hs2:=X2.o.size;have B2:=hid (HB.o.trans (X2.o.mono hsr));have R2:=hid (yP HO.o X2.o);have K2:=hid (HK.o.below X2.o oo);rw[Gi.o]at A2;rw[Gi.o];clear c0 c1 c2 c3 HK HO X2;obtain⟨a0,a1,a2,a3⟩:=A2.o.cs;obtain⟨kn,Hkn⟩:=Nm n.kids.length;rw[Hkn.o]at a3 A2 K2;have wH:Hid (Calls prog 101 #[.agg #[.int .i64 n.t.kind,.string n.t.word,.string n.t.unit,.slice ka kn kc]] w2 fun e w'=>e=.returned (.bool (kD n.t))/\Below w2.heap.size w2 w'):=PY n.t ka kn kc w2 hw;obtain⟨z,Hz⟩:=Nm (kD n.t);rw[Hz.o]at wH HE0;go_wp2_with fail;refine wH.o.mono ?_;rintro ex w3 ⟨rfl,hb3⟩
   have A3:Hid (VB w3 nb (.int .i64 n.t.kind) (.string n.t.word) (.string n.t.unit) (.slice ka kn kc)):=A2.o.below hb3;have B3:=hid (B2.o.trans (hb3.mono oo));have R3:=hid (yP R2.o hb3);have K3:=hid (K2.o.below hb3 oo);have hs3:=B3.o.size;clear hb3 a0 a1 a2 a3 A2 R2 K2 wH;obtain⟨a0,a1,a2,a3⟩:=A3.o.cs;cases z
   .have HD:Hid (acc++(lW n.kids++lW (l.drop (i+1)))=R):=by
     have q:=HE0.o;simp only[Bool.false_eq_true,if_false,List.nil_append]at q;exact q
    have KX:=K3;have sH:=hid (HRN.o B _ w3 KX.o oo oo);go_wp2_with fail;refine sH.o.mono ?_;rintro ex w7 ⟨⟨u2,rfl,hrow2⟩,hb7⟩;have R7:Hid (w7.ownsRow w.heap.size 9 1 (.slice ua acc.length uc) acc.length (dM acc)):=aP R3.o fun r hr=>hb7.block r (R3.o.lt r hr).2;have B7:=hid (AC B3.o hb7);have hs7:=B7.o.size;clear hb7 sH;rcases qU hrow2 with⟨rfl,hz2⟩|⟨g2,c2,rfl,hc2⟩
    .have HE:Hid (acc++lW (l.drop (i+1))=R):=by
      show _=_;rw[<-HD.o,hz2,List.nil_append]
     clear hrow2 hz2;go_wp2_with(at_builtin;go_must(refine wpList_append_own_none rfl _ _ 26 rfl w.heap.size 9 iS 1 Tryz.underlying26 HI.o.1 (.slice ua acc.length uc) acc.length (dM acc) rfl R7.o rfl ?_));go_wp2_with fail;go_roundg(gk-1);case measure=>omega
     case rel=>exact⟨_,_,i+1,rfl,by congr 1,oo,R7.o,HE.o,B7.o⟩
    .have HC2:=hid hc2;have HE:Hid ((acc++lW n.kids)++lW (l.drop (i+1))=R):=by
      show _=_;rw[<-HD.o,List.append_assoc]
     have hle:acc.length+(lW n.kids).length<=1000000:=by have q:=congrArg List.length HE.o;simp only[List.length_append]at q;omega
     clear hrow2 hc2;go_wp2_with(at_builtin;go_must(refine wpList_append_own_at _ rfl _ _ 26 rfl w.heap.size 9 iS (.string ⟨#[]⟩) 1 16 Tryz.underlying26 HI.o.1 HI.o.2.1 HI.o.2.2.1 HI.o.2.2.2 rfl oo (.slice ua acc.length uc) acc.length (dM acc) rfl R7.o ⟨g2,0,none⟩ (lW n.kids).length c2 (dM (lW n.kids)) rfl (by simp[dM]) HC2.o (by simp[dM,Value.oneCell']) As oo oo ?_));intro v8 w8 eP lD _ _;have hlo:∀rr,Value.ownBlock (.slice ua acc.length uc)=some rr->w.heap.size<=rr:=fun rr hr=>(R7.o.lt rr hr).1;have B8:=hid (B7.o.grown lD hs7 hlo);have R8:Hid (w8.ownsRow w.heap.size 9 1 v8 (acc++lW n.kids).length (dM (acc++lW n.kids))):=by have h:=eP;unfold dM at *;rw[List.length_append,List.map_append];exact h
     clear eP lD hlo;go_wp2_with fail;go_roundg(gk-1);case measure=>omega
     case rel=>exact⟨_,_,i+1,rfl,by congr 1,oo,R8.o,HE.o,B8.o⟩
   .have HCR:=hid (NV B n.kids _ w3 K3.o oo);go_wp2_with fail;refine HCR.o.mono ?_;rintro ex w4 ⟨hrd,hb4⟩;have A4:Hid (VB w4 nb (.int .i64 n.t.kind) (.string n.t.word) (.string n.t.unit) (.slice ka kn kc)):=A3.o.below hb4;have B4:=hid (B3.o.trans (hb4.mono hs3));have R4:=hid (yP R3.o hb4);have K4:=hid (K3.o.below hb4 oo);have hs4:=B4.o.size;clear hb4 a0 a1 a2 a3 A3 R3 K3 HCR;cases hr:Gm n.kids with
    |none=>
     rw[hr]at hrd;have WJ:ex=_:=hrd;subst WJ;unfold abH;have HD:Hid (acc++(lW n.kids++lW (l.drop (i+1)))=R):=by show _=_;have q:=HE0.o;unfold nmV at q;rw[hr]at q;simpa using q
     clear hr hrd;have X5:Hid (Below w4.heap.size w4 (w4.alloc (.cells #[.string ⟨#[]⟩,.bool false,.slice none 0 0] 327))):=Ax.alloc nl _;go_upto_region 7 with fail
     generalize w4.alloc (.cells #[.string ⟨#[]⟩,.bool false,.slice none 0 0] 327)=w5 at *;have A5:Hid (VB w5 nb (.int .i64 n.t.kind) (.string n.t.word) (.string n.t.unit) (.slice ka kn kc)):=A4.o.below X5.o;have B5:=hid (B4.o.trans (X5.o.mono hs4));have R5:=hid (yP R4.o X5.o);have KX:=hid (K4.o.below X5.o oo);have hs5:=B5.o.size;clear X5 A4 R4 K4;obtain⟨a0,a1,a2,a3⟩:=A5.o.cs;have sH:=hid (HRN.o B _ w5 KX.o oo oo);go_wp2_with fail;refine sH.o.mono ?_;rintro ex w7 ⟨⟨u2,rfl,hrow2⟩,hb7⟩;have R7:Hid (w7.ownsRow w.heap.size 9 1 (.slice ua acc.length uc) acc.length (dM acc)):=aP R5.o fun r hr=>hb7.block r (R5.o.lt r hr).2;have B7:=hid (AC B5.o hb7);have hs7:=B7.o.size;clear hb7 sH;rcases qU hrow2 with⟨rfl,hz2⟩|⟨g2,c2,rfl,hc2⟩
     .have HE:Hid (acc++lW (l.drop (i+1))=R):=by
       show _=_;rw[<-HD.o,hz2,List.nil_append]
      clear hrow2 hz2;go_wp2_with(at_builtin;go_must(refine wpList_append_own_none rfl _ _ 26 rfl w.heap.size 9 iS 1 Tryz.underlying26 HI.o.1 (.slice ua acc.length uc) acc.length (dM acc) rfl R7.o rfl ?_));go_wp2_with fail;go_roundg(gk-1);case measure=>omega
      case rel=>exact⟨_,_,i+1,rfl,by congr 1,oo,R7.o,HE.o,B7.o⟩
     .have HC2:=hid hc2;have HE:Hid ((acc++lW n.kids)++lW (l.drop (i+1))=R):=by
       show _=_;rw[<-HD.o,List.append_assoc]
      have hle:acc.length+(lW n.kids).length<=1000000:=by have q:=congrArg List.length HE.o;simp only[List.length_append]at q;omega
      clear hrow2 hc2;go_wp2_with(at_builtin;go_must(refine wpList_append_own_at _ rfl _ _ 26 rfl w.heap.size 9 iS (.string ⟨#[]⟩) 1 16 Tryz.underlying26 HI.o.1 HI.o.2.1 HI.o.2.2.1 HI.o.2.2.2 rfl oo (.slice ua acc.length uc) acc.length (dM acc) rfl R7.o ⟨g2,0,none⟩ (lW n.kids).length c2 (dM (lW n.kids)) rfl (by simp[dM]) HC2.o (by simp[dM,Value.oneCell']) As oo oo ?_));intro v8 w8 eP lD _ _;have hlo:∀rr,Value.ownBlock (.slice ua acc.length uc)=some rr->w.heap.size<=rr:=fun rr hr=>(R7.o.lt rr hr).1;have B8:=hid (B7.o.grown lD hs7 hlo);have R8:Hid (w8.ownsRow w.heap.size 9 1 v8 (acc++lW n.kids).length (dM (acc++lW n.kids))):=by have h:=eP;unfold dM at *;rw[List.length_append,List.map_append];exact h
      clear eP lD hlo;go_wp2_with fail;go_roundg(gk-1);case measure=>omega
      case rel=>exact⟨_,_,i+1,rfl,by congr 1,oo,R8.o,HE.o,B8.o⟩
    |some x=>
     obtain⟨nm,hf,fb⟩:=x;rw[hr]at hrd;obtain⟨fv,rfl,hfv,hnm⟩:=hrd;obtain⟨fa,fc,rfl⟩:=hfv.form;unfold abH;have HD:Hid ((acc++[nm])++(lW n.kids++lW (l.drop (i+1)))=R):=by show _=_;have q:=HE0.o;unfold nmV at q;rw[hr]at q;simpa using q
     have hle:acc.length+1<=1000000:=by have q:=congrArg List.length HD.o;simp only[List.length_append,List.length_cons,List.length_nil]at q;omega
     clear hr hfv;generalize fb.length=fl at *;have X5:Hid (Below w4.heap.size w4 (w4.alloc (.cells #[.string nm,.bool hf,.slice fa fl fc] 327))):=Ax.alloc nl _;have U5:Hid (U3 (w4.alloc (.cells #[.string nm,.bool hf,.slice fa fl fc] 327)) w4.heap.size (.string nm) (.bool hf) (.slice fa fl fc)):=U3.new _ _ _ _;go_upto_region 7 with fail
     generalize w4.alloc (.cells #[.string nm,.bool hf,.slice fa fl fc] 327)=w5 at *;have A5:Hid (VB w5 nb (.int .i64 n.t.kind) (.string n.t.word) (.string n.t.unit) (.slice ka kn kc)):=A4.o.below X5.o;have B5:=hid (B4.o.trans (X5.o.mono hs4));have R5:=hid (yP R4.o X5.o);have K5:=hid (K4.o.below X5.o oo);have hs5:=B5.o.size;obtain⟨ub,Hub⟩:=Nm w4.heap.size;rw[Hub.o]at U5;rw[Hub.o];clear X5 A4 R4 K4;obtain⟨a0,a1,a2,a3⟩:=A5.o.cs;obtain⟨q0,q1,q2⟩:=U5.o.cs;have RA:Hid ((w5.alloc (.cells #[.string nm] 9)).ownsRow w.heap.size 9 1 (.slice ua acc.length uc) acc.length (dM acc)):=R5.o.alloc _
     go_wp2_with(at_builtin;go_must(refine wpList_append_own_at _ rfl _ _ 26 rfl w.heap.size 9 iS (.string ⟨#[]⟩) 1 16 Tryz.underlying26 HI.o.1 HI.o.2.1 HI.o.2.2.1 HI.o.2.2.2 rfl oo (.slice ua acc.length uc) acc.length (dM acc) rfl RA.o ⟨w5.heap.size,0,none⟩ 1 1 [.string nm] rfl rfl (nO _ _ _) (by simp[Value.oneCell']) As oo An ?_));intro v6 w6 hown6 lS _ _;have hlo:∀rr,Value.ownBlock (.slice ua acc.length uc)=some rr->w.heap.size<=rr:=fun rr hr=>(R5.o.lt rr hr).1;have hb6:Below w.heap.size w5 w6:=(Ax.alloc hs5 _).grown lS An hlo;have B6:=hid (B5.o.trans hb6);obtain⟨yQ,al6⟩:=Nm (acc++[nm]);rw[al6.o]at HD;have R6:Hid (w6.ownsRow w.heap.size 9 1 v6 yQ.length (dM yQ)):=by rw[<-al6.o];have h:=hown6;unfold dM at *;rw[List.length_append,List.map_append];exact h
     have A6:Hid (VB w6 nb (.int .i64 n.t.kind) (.string n.t.word) (.string n.t.unit) (.slice ka kn kc)):=by
      have hne:some nb≠Value.ownBlock (.slice ua acc.length uc):=fun e=>by
       obtain⟨cur,q3⟩:=aff R5.o e.symm;have q4:w5.heap[nb]?=_:=A5.o;rw[q3]at q4;injection Option.some.inj q4 with _ e5 _
       exact absurd e5 (by decide)
      show _=_;rw[lS.block nb (by have:=A5.o.lt;simp;omega) hne,Below.heap_alloc _ _ _ A5.o.lt];exact A5.o
     have KX:=hid (K5.o.below hb6 hB);clear hown6 lS hb6 hlo a0 a1 a2 a3 q0 q1 q2 A5 R5 K5 RA;obtain⟨a0,a1,a2,a3⟩:=A6.o.cs;obtain⟨va,vc,rfl⟩:=kQ R6.o;have hs6:=B6.o.size;have sH:=hid (HRN.o B _ w6 KX.o oo oo);go_wp2_with fail;refine sH.o.mono ?_;rintro ex w7 ⟨⟨u2,rfl,hrow2⟩,hb7⟩;have R7:Hid (w7.ownsRow w.heap.size 9 1 (.slice va yQ.length vc) yQ.length (dM yQ)):=aP R6.o fun r hr=>hb7.block r (R6.o.lt r hr).2;have B7:=hid (AC B6.o hb7);have hs7:=B7.o.size;clear hb7 sH;rcases qU hrow2 with⟨rfl,hz2⟩|⟨g2,c2,rfl,hc2⟩
     .have HE:Hid (yQ++lW (l.drop (i+1))=R):=by
       show _=_;rw[<-HD.o,hz2,List.nil_append]
      clear hrow2 hz2;go_wp2_with(at_builtin;go_must(refine wpList_append_own_none rfl _ _ 26 rfl w.heap.size 9 iS 1 Tryz.underlying26 HI.o.1 (.slice va yQ.length vc) yQ.length (dM yQ) rfl R7.o rfl ?_));go_wp2_with fail;go_roundg(gk-1);case measure=>omega
      case rel=>exact⟨_,_,i+1,rfl,by congr 1,oo,R7.o,HE.o,B7.o⟩
     .have HC2:=hid hc2;have HE:Hid ((yQ++lW n.kids)++lW (l.drop (i+1))=R):=by
       show _=_;rw[<-HD.o,List.append_assoc]
      have hle:yQ.length+(lW n.kids).length<=1000000:=by have q:=congrArg List.length HE.o;simp only[List.length_append]at q;omega
      clear hrow2 hc2;go_wp2_with(at_builtin;go_must(refine wpList_append_own_at _ rfl _ _ 26 rfl w.heap.size 9 iS (.string ⟨#[]⟩) 1 16 Tryz.underlying26 HI.o.1 HI.o.2.1 HI.o.2.2.1 HI.o.2.2.2 rfl oo (.slice va yQ.length vc) yQ.length (dM yQ) rfl R7.o ⟨g2,0,none⟩ (lW n.kids).length c2 (dM (lW n.kids)) rfl (by simp[dM]) HC2.o (by simp[dM,Value.oneCell']) As oo oo ?_));intro v8 w8 eP lD _ _;have hlo:∀rr,Value.ownBlock (.slice va yQ.length vc)=some rr->w.heap.size<=rr:=fun rr hr=>(R7.o.lt rr hr).1;have B8:=hid (B7.o.grown lD hs7 hlo);have R8:Hid (w8.ownsRow w.heap.size 9 1 v8 (yQ++lW n.kids).length (dM (yQ++lW n.kids))):=by have h:=eP;unfold dM at *;rw[List.length_append,List.map_append];exact h
      clear eP lD hlo;go_wp2_with fail;go_roundg(gk-1);case measure=>omega
      case rel=>exact⟨_,_,i+1,rfl,by congr 1,oo,R8.o,HE.o,B8.o⟩
  .have h1:(l.length:Int)<=(i:Int):=oo;have HE:Hid (acc=R):=by
    show _=_;rw[<-HE0.o,List.drop_of_length_le (show l.length<=i by omega),PV,List.append_nil]
   go_wp2_with fail;go_ret;exact⟨⟨_,rfl,by rw[<-HE.o];exact HO.o⟩,HB.o⟩
theorem afh:∀(k:Nat) (l:List Nd),dL l<=k->UJ l:=by
 intro k;induction k with
 |zero=>intro l hl;refine UK l fun n hn=>?_;have h1:=nK l n hn;have h2:=Sp.gY n;omega
 |succ k ih=>intro l hl;refine UK l fun n hn=>ih _ ?_;have h1:=nK l n hn;have h2:=Sp.gY n;omega
theorem ZB(l:List Nd):UJ l:=afh _ l nl
end
section
open Go.ChangeMaps (setBlock)
open Go.Maps (Keyed)
theorem pY.look1{k t e:TypeId}{w:WD}{b:Nat}{m:Av->Option Av}(h:pY k w b m)(K:Keyed prog k)(ht:prog.underlying t=some (.map k e)){z:Av}(hz:(zeroValue e).run prog w=.ok z w){key:Av}{l:Go.Lit}(hk:keyOf prog k key=some l):
  (Instr.lookup t (.map (some b)) key false).run prog w=.ok ((m key).getD z) w:=by
 obtain⟨es,c,h1,h2,h3,h4,h5⟩:=h;rcases K.find w hk es.toList h2 with⟨hf,hn⟩|⟨j,e0,hf,hj,he⟩
 .have hm:m key=none:=by
   cases hq:m key with
   |none=>rfl
   |some v=>obtain⟨x,hx,e⟩:=h4 _ _ hq;exact absurd e (hn x hx)
  rw[hm];simp[Instr.lookup,run_underlying ht,MapKept.run_getObj_map h1,K.check w _ hk,hf,hz,Result.andThen]
 .have hm:m key=some e0.val:=by rw[<-he];exact h3 e0 (List.mem_of_getElem? hj)
  rw[hm];simp[Instr.lookup,run_underlying ht,MapKept.run_getObj_map h1,K.check w _ hk,hf,Result.andThen]
def kJ(F:Nat->BY->Option jS)(e:Nat)(q:BY):Option (List Nd):=(F e q).map jS.val
def kX(w:WD)(b:Nat)(p:aI)(F:Nat->BY->Option jS)(lp:Nat->BY->Bool):Prop:=∃m,pY 133 w b m/\∀e s v,m (qV e s)=some v->∃t,v=aV t/\Cv p (kJ F) lp e s t
section
variable {w w':WD} {b:Nat} {p:aI} {F:Nat->BY->Option jS} {lp:Nat->BY->Bool}
theorem kX.lt(h:kX w b p F lp):b<w.heap.size:=by obtain⟨m,h1,_⟩:=h;exact h1.lt
theorem kX.keep(h:kX w b p F lp)(he:w'.heap[b]?=w.heap[b]?):kX w' b p F lp:=by obtain⟨m,h1,h2⟩:=h;exact⟨m,h1.keep he,h2⟩
theorem kX.look{e:Nat}{s:BY}(h:kX w b p F lp)(he:e<64)(hs:s.size<=4000000):
  (∃t,(Instr.lookup 75 (.map (some b)) (.agg #[.int .i64 (e:Int),.string s]) true).run prog w=.ok (.tuple #[.agg #[.string t],.bool true]) w/\Cv p (kJ F) lp e s t) \/
  (Instr.lookup 75 (.map (some b)) (.agg #[.int .i64 (e:Int),.string s]) true).run prog w=.ok (.tuple #[.agg #[.string ⟨#[]⟩],.bool false]) w:=by
 obtain⟨m,h1,h2⟩:=h;obtain⟨l,hl⟩:=aiw e s he hs;have hk:=h1.look Zf Tryz.underlying75 (aei w) hl;cases hm:m (.agg #[.int .i64 (e:Int),.string s])with
 |none=>rw[hm]at hk;exact Or.inr hk
 |some v=>rw[hm]at hk;obtain⟨t,rfl,hc⟩:=h2 e s v hm;exact Or.inl ⟨t,hk,hc⟩
theorem kX.upd{e:Nat}{s t:BY}(h:kX w b p F lp)(he:e<64)(hs:s.size<=4000000)(hc:Cv p (kJ F) lp e s t):
  ∃o,(Instr.mapUpdate 75 (.map (some b)) (.agg #[.int .i64 (e:Int),.string s]) (.agg #[.string t])).run prog w=.ok () (setBlock w b o)/\kX (setBlock w b o) b p F lp:=by
 obtain⟨m,h1,h2⟩:=h;obtain⟨l,hl⟩:=aiw e s he hs;open Classical in
 obtain⟨o,hr,hm'⟩:=h1.upd (m':=fun q=>if q=qV e s then some (aV t) else m q) Zf Tryz.underlying75 hl (if_pos rfl) (fun q hq=>if_neg hq);refine⟨o,hr,_,hm',fun e' s' v hv=>?_⟩;by_cases e1:qV e' s'=qV e s
 .obtain⟨rfl,rfl⟩:=ajX e1;have hv':(if qV e' s'=qV e' s' then some (aV t) else m (qV e' s'))=some v:=hv;rw[if_pos rfl]at hv';cases hv';exact⟨t,rfl,hc⟩
 .have hv':(if qV e' s'=qV e s then some (aV t) else m (qV e' s'))=some v:=hv;rw[if_neg e1]at hv';exact h2 e' s' v hv'
end
structure lV(B:Nat)(w:WD)(p:aI)(a:Option Addr)(cap:Nat)(wa:Option Addr)(wc:Nat)(bs:List Nat)(kb:Nat)(F:Nat->BY->Option jS)(lp:Nat->BY->Bool):Prop where
 cas:aa7 B w p a cap wa wc bs
 all:mF B w bs F
 DU:kX w kb p F lp
 ne:kb ∉ bs
 lo:B<=kb
section
variable {B:Nat} {w w':WD} {p:aI} {a:Option Addr} {cap:Nat} {wa:Option Addr} {wc:Nat} {bs:List Nat} {kb:Nat} {F:Nat->BY->Option jS} {lp:Nat->BY->Bool}
theorem lV.turn(h:lV B w p a cap wa wc bs kb F lp)(ht:Turn kb w w')(hk:kX w' kb p F lp):lV B w' p a cap wa wc bs kb F lp:=by
 have hb:Below B w w':=ht.below h.lo h.cas.pg.lt;obtain⟨rb,o,e,hc⟩:=h.cas.win;have hlen:=h.cas.pg.len;have hbl:=h.cas.len;obtain⟨m,hm,_⟩:=h.DU;have hne:rb≠kb:=wC hm (hc 0 oo);have hrl:rb<w.heap.size:=cell_lt (hc 0 oo);refine⟨⟨h.cas.pg.below hb nl,⟨rb,o,e,fun i hi=>?_⟩,h.cas.len,h.cas.cap,h.cas.nd,h.cas.lo⟩,fun i hi=>?_,hk,h.ne,h.lo⟩
 .rw[World.cell?_of_block (w:=w) (a:=⟨rb,_,none⟩) (ht.block rb hrl hne)];exact hc i hi
 .exact(h.all i hi).keep hb (ht.block _ (h.all i hi).lt (fun e2=>h.ne (e2 ▸ List.getElem_mem hi)))
theorem lV.below(h:lV B w p a cap wa wc bs kb F lp)(hb:Below w.heap.size w w'):lV B w' p a cap wa wc bs kb F lp:=h.turn (Turn.of_below hb) (h.DU.keep (hb.block _ h.DU.lt))
end
theorem DV{w:WD}{b b':Nat}{u:Av}{n:Nat}{xs:List Av}(h:w.ownsRow b 9 1 u n xs)(hb:b'<=b):w.ownsRow b' 9 1 u n xs:=by
 refine⟨h.1,?_⟩;rcases h.2 with h2|⟨g,cap,cur,h3,h4,h5⟩
 .exact .inl h2
 .exact .inr ⟨g,cap,cur,h3,Nat.le_trans hb h4,h5⟩
theorem DW{F:Nat->BY->Option jS}{e:Nat}{s:BY}(h:F e s=none):yO (kJ F) e s=[]:=by unfold yO kJ;rw[h];rfl
theorem yR{F:Nat->BY->Option jS}{e:Nat}{s:BY}{x:jS}(h:F e s=some x):yO (kJ F) e s=lW x.val:=by unfold yO kJ;rw[h];rfl
theorem ahN(w:WD)(pr:BY)(v:Av)(im:Bool)(x y z:Int):(Instr.field 184 (.agg #[.string pr,v,.bool im,.int .i64 x,.int .i64 y,.int .i64 z]) 0).run prog w=.ok (.agg #[.string pr,v,.bool im]) w:=by kernel_rfl
theorem ahO(w:WD)(pr:BY)(v:Av)(im:Bool):(Instr.field 181 (.agg #[.string pr,v,.bool im]) 1).run prog w=.ok v w:=by kernel_rfl
theorem KF(B:Nat)(p:aI)(a:Option Addr)(cap:Nat)(wa:Option Addr)(wc:Nat)(bs:List Nat)(kb:Nat)(F:Nat->BY->Option jS)(lp:Nat->BY->Bool)(e:Nat)(s:BY)(w:WD)(h:lV B w p a cap wa wc bs kb F lp)(hs:s.size<=4000000)(he:e<p.length)
  (hF:∀x,F e s=some x->dL x.val<=12000):
  Calls prog 167 #[.agg #[.slice a p.length cap,.slice wa bs.length wc,.map (some kb)],.int .i64 (e:Int),.string s] w
   fun ex w'=>(∃u,ex=.returned u/\w'.ownsRow w.heap.size 9 1 u (yO (kJ F) e s).length (dM (yO (kJ F) e s)))/\Below w.heap.size w w':=by
 have B0:Hid (Below w.heap.size w (w.alloc (.cells #[.slice a p.length cap,.slice wa bs.length wc,.map (some kb)] 77))):=Ax.alloc nl _;have K0:Hid (K3 (w.alloc (.cells #[.slice a p.length cap,.slice wa bs.length wc,.map (some kb)] 77)) w.heap.size (.slice a p.length cap) (.slice wa bs.length wc) (.map (some kb))):=K3.new _ _ _ _;have S0:=hid (h.below B0.o);have hlen:=h.cas.pg.len;have hbl:=h.cas.len;have hcw:=h.cas.cap;have HFx:=hid hF;clear h hF;have heb:e<bs.length:=oo;have h1:(e:Int)<(bs.length:Int):=oo;have al2:bs.length<=30:=oo;clear hbl;have fw:=ahN;have fd:=ahO;go_in;go_upto_region 1 with fail
 generalize hw0:w.alloc (.cells #[.slice a p.length cap,.slice wa bs.length wc,.map (some kb)] 77)=w0 at *;have hs0:w0.heap.size=w.heap.size+1:=by rw[<-hw0];simp
 clear hw0;obtain⟨k0,k1,k2⟩:=K0.o.cs;obtain⟨rb,ro,rfl,hcl⟩:=S0.o.cas.win;have c0:=hcl e heb;have hBw:=S0.o.cas.pg.lt;obtain⟨m,hm,hf⟩:=S0.o.all e heb;have hlk:=hm.look1 qO Tryz.underlying127 (JR w0) (zo hs);have hfx:=hf s;cases hfp:F e s with
 |none=>
  rw[hfp]at hfx;have yD:m (.string s)=none:=hfx;rw[yD]at hlk;have al7:(Instr.lookup 127 (.map (some bs[e])) (.string s) false).run prog w0=.ok (.agg #[.string ⟨#[]⟩,.slice none 0 0,.bool false,.int .i64 0,.int .i64 0,.int .i64 0]) w0:=hlk;have HN:Hid (yO (kJ F) e s=[]):=DW hfp;have HC:=hid (ZB [] B (.slice none 0 0) w0 (Sl.nil _ _) hBw (by simp[dL]));clear hf hfx yD hm hcl hlk hfp;go_wp2_with fail;refine HC.o.mono ?_;rintro ex w1 ⟨⟨u,rfl,hrow⟩,hb1⟩;have B1:=hid (AC B0.o hb1);have R1:Hid (w1.ownsRow w.heap.size 9 1 u (yO (kJ F) e s).length (dM (yO (kJ F) e s))):=by
   rw[HN.o];rw[PV]at hrow;rcases qU hrow with⟨rfl,_⟩|⟨g,c,rfl,_⟩
   .exact World.ownsRow_nil _ _ _ _
   .exact DV hrow oo
  clear hb1 hrow;go_wp2_with fail;go_ret;exact⟨⟨_,rfl,R1.o⟩,B1.o⟩
 |some x=>
  rw[hfp]at hfx;obtain⟨epr,va,vc,yD,hxs⟩:=hfx;rw[yD]at hlk;unfold wnV at hlk;simp only[Option.getD_some]at hlk;have hwz:=HFx.o x hfp;have HN:Hid (yO (kJ F) e s=lW x.val):=yR hfp;have HC:=hid (ZB x.val B _ w0 hxs hBw oo);clear hf yD hm hcl epr hfp hxs;go_wp2_with fail;refine HC.o.mono ?_;rintro ex w1 ⟨⟨u,rfl,hrow⟩,hb1⟩;have B1:=hid (AC B0.o hb1);have R1:Hid (w1.ownsRow w.heap.size 9 1 u (yO (kJ F) e s).length (dM (yO (kJ F) e s))):=by rw[HN.o];exact DV hrow oo
  clear hb1 hrow;go_wp2_with fail;go_ret;exact⟨⟨_,rfl,R1.o⟩,B1.o⟩
end
def qI(w:WD)(base:Nat)(u:Av)(l:List BY):Prop:=(u=.slice none 0 0/\l=[])\/∃g o cap,u=.slice (some ⟨g,o,none⟩) l.length cap/\base<=g/\(∃cur,w.heap[g]?=some (.cells cur 9 (0,0)))/\l.length<=cap/\(∀j x,l[j]?=some x->w.cell? ⟨g,o+j,none⟩=some (.string x))/\∀j,j<cap->(w.cell? ⟨g,o+j,none⟩).isSome=true
theorem qI.of{w:WD}{base:Nat}{u:Av}{l:List BY}(h:w.ownsRow base 9 1 u l.length (dM l)):qI w base u l:=by
 have hc:=fun g=>h.cells (g:=g);rcases h.2 with⟨rfl,hn⟩|⟨g,cap,cur,rfl,hb,hh,hl,hm,hsz,_⟩
 .exact .inl ⟨rfl,List.eq_nil_of_length_eq_zero hn⟩
 .refine .inr ⟨g,0,cap,rfl,hb,⟨cur,hh⟩,hl,fun j x hj=>?_,fun j hj=>?_⟩
  .have:=hc g rfl j (.string x) (by unfold dM;rw[List.getElem?_map,hj];rfl);rwa[Addr.add_lit]at this
  .unfold World.cell?;rw[hh];simp;omega
theorem qI.form{w:WD}{base:Nat}{u:Av}{l:List BY}(h:qI w base u l):∃a c,u=.slice a l.length c:=by
 rcases h with⟨rfl,rfl⟩|⟨g,o,cap,rfl,_⟩
 .exact⟨_,_,rfl⟩
 .exact⟨_,_,rfl⟩
theorem qI.keep{w w':WD}{base:Nat}{u:Av}{l:List BY}(h:qI w base u l)(hw:∀(k:Nat) (cur:Array Av),w.heap[k]?=some (Obj.cells cur 9 (0,0))->w'.heap[k]?=w.heap[k]?):qI w' base u l:=by
 rcases h with h|⟨g,o,cap,h1,h2,⟨cur,h3⟩,h4,h5,h6⟩
 .exact .inl h
 .have e:=hw g cur h3;exact .inr ⟨g,o,cap,h1,h2,⟨cur,by rw[e];exact h3⟩,h4,fun j x hj=>by rw[World.cell?_of_block (w:=w) (a:=⟨g,_,none⟩) e];exact h5 j x hj,fun j hj=>by rw[World.cell?_of_block (w:=w) (a:=⟨g,_,none⟩) e];exact h6 j hj⟩
theorem qI.below{w w':WD}{base:Nat}{u:Av}{l:List BY}(h:qI w base u l)(hb:Below w.heap.size w w'):qI w' base u l:=h.keep fun k _ hk=>hb.block k (Ay hk)
theorem abJ(W:WD)(a:Option Addr)(n cap:Nat)(hn:1<=n):(Instr.slice 26 (.slice a n cap) (some (.int .i64 1)) none none).run prog W=.ok (.slice (if cap=1 then a else a.map (·.add 1)) (n-1) (cap-1)) W:=by
 obtain⟨iT,h1,_,h3,_⟩:=info_str;rw[run_slice_l (P:=prog) W 26 a n cap Tryz.underlying26 .i64 1 oo oo];have e:prog.elem 26=9:=by kernel_rfl
 simp[sizeOf,typeInfo,e,h1,h3,sliced,Result.andThen]
theorem qI.head{w:WD}{base:Nat}{u:Av}{x:BY}{r:List BY}(h:qI w base u (x::r)):
  ∃g o cap u',u=.slice (some ⟨g,o,none⟩) (r.length+1) cap/\r.length+1<=cap/\w.cell? ⟨g,o,none⟩=some (.string x)/\(∀W:WD,(Instr.slice 26 (.slice (some ⟨g,o,none⟩) (r.length+1) cap) (some (.int .i64 1)) none none).run prog W=.ok u' W)/\qI w base u' r:=by
 rcases h with⟨_,h⟩|⟨g,o,cap,rfl,h2,h3,h4,h5,h6⟩
 .cases h
 .simp only[List.length_cons]at h4;refine⟨g,o,cap,_,rfl,h4,by have:=h5 0 x rfl;rwa[Nat.add_zero]at this,fun W=>abJ W _ _ _ oo,?_⟩;rw[Nat.add_sub_cancel];by_cases hc:cap=1
  .rw[if_pos hc];have hr:r=[]:=List.eq_nil_of_length_eq_zero oo;subst hr;exact .inr ⟨g,o,cap-1,rfl,h2,h3,by simp,by simp,fun j hj=>by omega⟩
  .rw[if_neg hc];refine .inr ⟨g,o+1,cap-1,by simp[Addr.add],h2,h3,oo,fun j y hj=>?_,fun j hj=>?_⟩
   .have:=h5 (j+1) y (by simpa using hj);rwa[show o+(j+1)=o+1+j by omega]at this
   .have:=h6 (j+1) oo;rwa[show o+(j+1)=o+1+j by omega]at this
theorem Ad(b:Nat):∀(vs:List Av) (o:Nat) (w:WD),(w.setCells b o vs).tape=w.tape
 |[],_,_=>rfl
 |v::r,o,w=>by rw[World.setCells,Ad b r (o+1)];rfl
theorem size_setCells(b:Nat):∀(vs:List Av) (o:Nat) (w:WD),(w.setCells b o vs).heap.size=w.heap.size
 |[],_,_=>rfl
 |v::r,o,w=>by rw[World.setCells,size_setCells b r (o+1)];simp[World.setCell]
theorem yS(b:Nat)(T:TypeId):∀(vs:List Av) (o:Nat) (w:WD) (cur:Array Av),w.heap[b]?=some (.cells cur T (0,0))->∃cur',(w.setCells b o vs).heap[b]?=some (.cells cur' T (0,0))
 |[],_,_,cur,h=>⟨cur,h⟩
 |v::r,o,w,cur,h=>by rw[World.setCells];exact yS b T r (o+1) _ _ (bQ w b o cur T (0,0) v h)
structure aiE(base:Nat)(w w':WD):Prop where
 below:Below base w w'
 oth:∀k,k<w.heap.size->(∀cur,w.heap[k]?≠some (.cells cur 9 (0,0)))->w'.heap[k]?=w.heap[k]?
theorem KG{w:WD}{ops:Array Oper}{rest:List Oper}{o:Oper}{a:Act}{Q:Exit->Act->WD->Prop}(hgd:o.guard=none)(s x:Operand)
  (ho:o.op=.call { callee:=.builtin .append,args:=#[s,x],argTypes:=#[26,26] })
  (base:Nat) (u:Av) (l:List BY) (hs:a.eval s=u) (hq:qI w base u l) (xv:Av) (news:List BY) (hx:a.eval x=xv) {b2:Nat} (hrow:w.ownsRow b2 9 1 xv news.length (dM news)) (anG:l.length+news.length<=1000000000) (hbase:base<=w.heap.size)
  (hK:∀v' w',qI w' base v' (l++news)->aiE base w w'->wpList prog ops Q rest (a.put o.dst v') w'):wpList prog ops Q (o::rest) a w:=by
 obtain⟨iS,hi,hz,hsz,hby⟩:=info_str;have hnl:(dM news).length=news.length*1:=by unfold dM;simp
 have h1c:∀v∈dM news,v.oneCell'=true:=by intro v hv;obtain⟨b,_,rfl⟩:=List.mem_map.1 hv;rfl
 by_cases hne:news=[]
 .subst hne;have hsrc:Src prog iS.size 26 xv 0 [] w:=by
   rw[hsz];rcases qU hrow with⟨rfl,_⟩|⟨g,c,rfl,_⟩
   .exact Src.ofNil w Tryz.underlying26 0
   .exact Src.ofSlice w Tryz.underlying26 ⟨g,0,none⟩ 0 c [] rfl Ab Ab
  obtain⟨ua,uc,hu,hle⟩:∃ua uc,u=.slice ua l.length uc/\l.length<=uc:=by
   rcases hq with⟨rfl,rfl⟩|⟨g,o',cap,rfl,_,_,h4,_⟩
   .exact⟨none,0,rfl,Nat.le_refl _⟩
   .exact⟨_,_,rfl,h4⟩
  refine wpList_plain hgd fun K hK'=>?_;have hrun:=run_append_nothing (P:=prog) w 26 26 o.type 9 iS Tryz.underlying26 hi ua l.length uc hle xv hsrc;have hK2:=hK u w (by rw[List.append_nil];exact hq) ⟨Ax,fun _ _ _=>rfl⟩;rw[hu]at hs hK2;unfold Oper.wp;simp[execOp,ho,resolve,invoke,builtin,hs,hx,hrun,Result.andThen];exact hK' _ _ hK2
 .have hpos:0<news.length:=by
   cases news with
   |nil=>exact absurd rfl hne
   |cons _ _=>simp
  rcases qU hrow with⟨_,e⟩|⟨g2,c2,rfl,hc2⟩
  .exact absurd e hne
  .have grow:∀v' w',w'.ownsRow w.heap.size 9 1 v' (l.length+news.length) (dM l++dM news)->w.grownBy w' none->wpList prog ops Q rest (a.put o.dst v') w':=by
    intro v' w' hr hg;refine hK v' w' (qI.of (DV (b':=base) ?_ hbase)) ⟨⟨hg.os,hg.tape,hg.output,hg.size,fun k hk=>hg.block k oo Ab⟩,fun k hk _=>hg.block k hk Ab⟩;have e:dM (l++news)=dM l++dM news:=by unfold dM;rw[List.map_append]
    rw[e,List.length_append];exact hr
   rcases hq with⟨rfl,rfl⟩|⟨g,o',cap,rfl,h2,⟨cur,h3⟩,h4,h5,h6⟩
   .refine wpList_append_grows w hgd s x 26 ho 9 iS (.string ⟨#[]⟩) 1 16 Tryz.underlying26 hi hz hsz hby rfl oo none 0 0 [] hs (fun _=>⟨rfl,rfl⟩) rfl (fun b hb=>by cases hb) ⟨g2,0,none⟩ news.length c2 (dM news) hx hnl hc2 h1c oo As oo ?_;intro v' w' hr hg;exact grow v' w' (by simpa[dM]using hr) hg
   .refine wpList_append_arg w hgd s x 26 ho 9 iS (.string ⟨#[]⟩) 1 16 Tryz.underlying26 hi hz hsz hby rfl oo g o' l.length cap (dM l) hs (by unfold dM;simp) (fun j v hj=>?_) ⟨g2,0,none⟩ news.length c2 (dM news) hx hnl hc2 h1c (fun hle j hj=>?_) As oo (fun hle=>?_) (fun _ v' w' hr hg=>grow v' w' hr hg)
    .unfold dM at hj;rw[List.getElem?_map]at hj;cases hlj:l[j]? with
     |none=>rw[hlj]at hj;cases hj
     |some y=>rw[hlj]at hj;cases hj;exact h5 j y hlj
    .rw[hnl]at hj;refine⟨?_,by unfold World.frozen?;rw[h3];simp⟩;have:=h6 (l.length+j) oo;rwa[show o'+(l.length+j)=o'+l.length*1+j by omega]at this
    .have hsome:∀j,j<(dM news).length->(w.cell? ⟨g,o'+l.length*1+j,none⟩).isSome=true:=fun j hj=>by
      rw[hnl]at hj;have:=h6 (l.length+j) oo;rwa[show o'+(l.length+j)=o'+l.length*1+j by omega]at this
     have hin:=World.cell?_setCells_in g (dM news) (o'+l.length*1) w hsome;have hout:=World.cell?_setCells_out g (dM news) (o'+l.length*1) w;have hoth:∀k,k<w.heap.size->k≠g->(w.setCells g (o'+l.length*1) (dM news)).heap[k]?=w.heap[k]?:=fun k hk hkg=>World.heap_setCells_other w g _ _ hk hkg;refine hK _ _ (.inr ⟨g,o',cap,by rw[List.length_append],h2,yS g _ _ _ _ cur h3,by rw[List.length_append];exact hle,fun j y hj=>?_,fun j hj=>?_⟩) ⟨⟨World.os_setCells _ _ _ _,Ad _ _ _ _,World.output_setCells _ _ _ _,by rw[size_setCells];exact Nat.le_refl _,fun k hk=>hoth k oo oo⟩,fun k hk hcur=>hoth k hk (fun e=>hcur cur (e ▸ h3))⟩
     .by_cases hjl:j<l.length
      .rw[List.getElem?_append_left hjl]at hj;rw[hout ⟨g,o'+j,none⟩ (fun _ _=>Or.inl (by show o'+j<o'+l.length*1;omega))];exact h5 j y hj
      .rw[List.getElem?_append_right oo]at hj;have hjn:j-l.length<(dM news).length:=by
        have:=(List.getElem?_eq_some_iff.1 hj).1;rw[hnl];omega
       have h7:=hin (j-l.length) hjn;rw[show o'+l.length*1+(j-l.length)=o'+j by omega]at h7;rw[h7];have h8:(dM news)[j-l.length]?=some (.string y):=by unfold dM;rw[List.getElem?_map,hj];rfl
       rw[List.getElem?_eq_getElem hjn]at h8;exact h8
     .by_cases hjn:l.length<=j/\j<l.length+(dM news).length
      .have h7:=hin (j-l.length) oo;rw[show o'+l.length*1+(j-l.length)=o'+j by omega]at h7;rw[h7];rfl
      .rw[hout ⟨g,o'+j,none⟩ (fun _ _=>by show o'+j<o'+l.length*1\/o'+l.length*1+(dM news).length<=o'+j;omega)];exact h6 j hj
section
open Go.ChangeMaps (setBlock)
def Ea(S:BY->Nat)(n:BY):BY->Nat:=fun x=>if x=n then S n+1 else S x
def unS(U:List BY)(S:BY->Nat):Nat:=(U.filter (fun x=>S x==0)).length
theorem akq(U:List BY)(S:BY->Nat):unS U S<=U.length:=List.length_filter_le _ _
theorem UL(U:List BY)(S:BY->Nat)(n:BY):unS U (Ea S n)<=unS U S:=by
 unfold unS;induction U with
 |nil=>exact Nat.le_refl _
 |cons x r ih=>
  rw[List.filter_cons,List.filter_cons];by_cases h:S x=0
  .rw[if_pos (show(S x==0)=true by simp[h])];split
   .simp only[List.length_cons];omega
   .simp only[List.length_cons];omega
  .have h2:Ea S n x≠0:=by unfold Ea;split<;>omega
   rw[if_neg (show ¬(S x==0)=true by simp[h]),if_neg (show ¬(Ea S n x==0)=true by simp[h2])];exact ih
theorem afi(U:List BY)(S:BY->Nat)(n:BY)(hn:n∈U)(h0:S n=0):unS U (Ea S n)+1<=unS U S:=by
 induction U with
 |nil=>cases hn
 |cons x r ih=>
  have hm:=UL r S n;unfold unS at *;rw[List.filter_cons,List.filter_cons];by_cases e:x=n
  .have h2:Ea S n x≠0:=by unfold Ea;rw[if_pos e];omega
   rw[if_pos (show(S x==0)=true by rw[e];simp[h0]),if_neg (show ¬(Ea S n x==0)=true by simp[h2])];simp only[List.length_cons];omega
  .have hr:n∈r:=by
    rcases List.mem_cons.1 hn with h|h
    .exact absurd h.symm e
    .exact h
   have ih':=ih hr;have h2:Ea S n x=S x:=by unfold Ea;rw[if_neg e]
   rw[h2];split
   .simp only[List.length_cons];omega
   .exact ih'
structure XV(nb:BY->List BY)(q:BY)(U:List BY)(M T:Nat)(S:BY->Nat)(l:List BY)(gg:Nat):Prop where
 way:∀x∈l,Sp.Way nb q x
 ne:∀x,S x≠0->x≠q
 cl:∀y,(y=q\/S y≠0)->∀z∈nb y,z∈l\/S z≠0
 inU:∀x∈l,x∈U
 ms:unS U S*(M+1)+l.length<=gg
 cnt:∀x,S x+gg<=T
section
variable {nb:BY->List BY} {q:BY} {U:List BY} {M T:Nat} {S:BY->Nat} {l r:List BY} {n:BY} {gg:Nat}
theorem XV.start(hU:∀y,∀z∈nb y,z∈U)(hM:∀y,(nb y).length<=M):XV nb q U M (U.length*(M+1)+M) (fun _=>0) (nb q) (U.length*(M+1)+M):=by
 refine⟨fun x hx=>.one hx,fun x h=>absurd rfl h,fun y hy z hz=>?_,hU q,?_,fun x=>by omega⟩
 .rcases hy with rfl|h
  .exact .inl hz
  .exact absurd rfl h
 .have h1:=Nat.mul_le_mul_right (M+1) (akq U (fun _=>0));have h2:=hM q;omega
theorem XV.cnt'(h:XV nb q U M T S (n::r) gg):∀x,Ea S n x+(gg-1)<=T:=by intro x;have h1:=h.cnt x;have h2:=h.cnt n;have h3:=h.ms;simp only[List.length_cons]at h3;unfold Ea;split<;>omega
theorem XV.fresh(h:XV nb q U M T S (n::r) gg)(hU:∀y,∀z∈nb y,z∈U)(hM:∀y,(nb y).length<=M)(hq:n≠q)(h0:S n=0):XV nb q U M T (Ea S n) (r++nb n) (gg-1):=by
 have am5:=h.way n Ab;have hs:∀z,S z≠0->Ea S n z≠0:=fun z hz=>by unfold Ea;split<;>omega
 have hn:Ea S n n≠0:=by unfold Ea;rw[if_pos rfl];omega
 refine⟨fun x hx=>?_,fun x hx=>?_,fun y hy z hz=>?_,fun x hx=>?_,?_,h.cnt'⟩
 .rcases List.mem_append.1 hx with hx|hx
  .exact h.way x (by simp[hx])
  .exact .more am5 hx
 .by_cases e:x=n
  .rw[e];exact hq
  .exact h.ne x (by unfold Ea at hx;rwa[if_neg e]at hx)
 .by_cases e:y=n
  .subst e;exact .inl (by simp[hz])
  .have hy':y=q\/S y≠0:=hy.imp id fun hh=>by unfold Ea at hh;rwa[if_neg e]at hh
   rcases h.cl y hy' z hz with h1|h1
   .rcases List.mem_cons.1 h1 with rfl|h1
    .exact .inr hn
    .exact .inl (by simp[h1])
   .exact .inr (hs z h1)
 .rcases List.mem_append.1 hx with hx|hx
  .exact h.inU x (by simp[hx])
  .exact hU n x hx
 .have h1:=Nat.mul_le_mul_right (M+1) (afi U S n (h.inU n Ab) h0);rw[Nat.add_mul,Nat.one_mul]at h1;have h2:=hM n;have h3:=h.ms;simp only[List.length_cons,List.length_append]at h3⊢;omega
theorem XV.old(h:XV nb q U M T S (n::r) gg)(hq:n≠q)(h0:S n≠0):XV nb q U M T (Ea S n) r (gg-1):=by
 have hs:∀z,S z≠0->Ea S n z≠0:=fun z hz=>by unfold Ea;split<;>omega
 have hb:∀z,Ea S n z≠0->S z≠0:=fun z hz=>by
  by_cases e:z=n
  .rw[e];exact h0
  .unfold Ea at hz;rwa[if_neg e]at hz
 refine⟨fun x hx=>h.way x (by simp[hx]),fun x hx=>h.ne x (hb x hx),fun y hy z hz=>?_,fun x hx=>h.inU x (by simp[hx]),?_,h.cnt'⟩
 .rcases h.cl y (hy.imp id (hb y)) z hz with h1|h1
  .rcases List.mem_cons.1 h1 with rfl|h1
   .exact .inr (hs _ h0)
   .exact .inl h1
  .exact .inr (hs z h1)
 .have h1:=Nat.mul_le_mul_right (M+1) (UL U S n);have h3:=h.ms;simp only[List.length_cons]at h3;omega
theorem XV.done(h:XV nb q U M T S [] gg):¬Sp.Way nb q q:=by
 have key:∀x,Sp.Way nb q x->S x≠0:=by
  intro x hx;induction hx with
  |one hb=>exact(h.cl q (.inl rfl) _ hb).resolve_left Ab
  |more _ hc ih=>exact(h.cl _ (.inr ih) _ hc).resolve_left Ab
 exact fun hw=>h.ne q (key q hw) rfl
end
def sD(w:WD)(b:Nat)(S:BY->Nat):Prop:=∃m,pY 9 w b m/\∀s:BY,(m (.string s)).getD (.int .i64 0)=.int .i64 (S s:Int)
theorem sD.lt{w:WD}{b:Nat}{S:BY->Nat}(h:sD w b S):b<w.heap.size:=by obtain⟨m,h1,_⟩:=h;exact h1.lt
theorem sD.keep{w w':WD}{b:Nat}{S:BY->Nat}(h:sD w b S)(he:w'.heap[b]?=w.heap[b]?):sD w' b S:=by obtain⟨m,h1,h2⟩:=h;exact⟨m,h1.keep he,h2⟩
theorem sD.not{w:WD}{b:Nat}{S:BY->Nat}(h:sD w b S)(cur:Array Av)(T:TypeId):w.heap[b]?≠some (.cells cur T (0,0)):=by obtain⟨m,⟨es,c,h1,_⟩,_⟩:=h;rw[h1];exact fun e=>by cases e
theorem afj(w:WD):(zeroValue 3).run prog w=.ok (.int .i64 0) w:=by kernel_rfl
theorem sD.look{w:WD}{b:Nat}{S:BY->Nat}{s:BY}(h:sD w b S)(hs:s.size<=4000000):(Instr.lookup 258 (.map (some b)) (.string s) false).run prog w=.ok (.int .i64 (S s:Int)) w:=by obtain⟨m,h1,h2⟩:=h;have hk:=h1.look1 qO Tryz.underlying258 (afj w) (zo hs);rw[h2 s]at hk;exact hk
theorem sD.upd{w:WD}{b:Nat}{S:BY->Nat}{s:BY}(h:sD w b S)(hs:s.size<=4000000):
  ∃o,(Instr.mapUpdate 258 (.map (some b)) (.string s) (.int .i64 ((S s:Int)+1))).run prog w=.ok () (setBlock w b o)/\sD (setBlock w b o) b (Ea S s):=by
 obtain⟨m,h1,h2⟩:=h;open Classical in
 obtain⟨o,hr,hm'⟩:=h1.upd (m':=fun q=>if q=.string s then some (.int .i64 ((S s:Int)+1)) else m q) qO Tryz.underlying258 (zo hs) (if_pos rfl) (fun q hq=>if_neg hq);refine⟨o,hr,_,hm',fun x=>?_⟩;unfold Ea;by_cases e:x=s
 .subst e;rw[if_pos rfl,if_pos rfl];rfl
 .rw[if_neg e];show((if Value.string x=.string s then some (.int .i64 ((S s:Int)+1)) else m (.string x)).getD (.int .i64 0):Av)=_;rw[if_neg (fun hh=>e (JU hh))];exact h2 x
theorem qB{w:WD}{b k:Nat}{o:Obj}(h:k≠b):(setBlock w b o).heap[k]?=w.heap[k]?:=by show(w.heap.setIfInBounds b o)[k]?=_;rw[Array.getElem?_setIfInBounds_ne (fun e=>h e.symm)]
theorem Gp{w:WD}{b B:Nat}{o:Obj}(h:B<=b):Below B w (setBlock w b o):=⟨rfl,rfl,rfl,by show _<=(w.heap.setIfInBounds b o).size;simp,fun k hk=>qB oo⟩
structure NiI(w:WD)(pv wv kv:Av)(sb:Nat)(u:Av)(l:List BY)(S:BY->Nat)(wr:WD):Prop where
 below:Below w.heap.size w wr
 k:K3 wr w.heap.size pv wv kv
 s:sD wr sb S
 q:qI wr w.heap.size u l
theorem NiI.next{w:WD}{pv wv kv:Av}{sb:Nat}{u:Av}{l:List BY}{S:BY->Nat}{wr w':WD}(h:NiI w pv wv kv sb u l S wr)(hb:Below wr.heap.size wr w'):NiI w pv wv kv sb u l S w':=⟨h.below.trans (hb.mono h.below.size),h.k.below hb,h.s.keep (hb.block _ h.s.lt),h.q.below hb⟩
theorem NiI.grow{w:WD}{pv wv kv:Av}{sb:Nat}{u u':Av}{l l':List BY}{S:BY->Nat}{wr w':WD}(h:NiI w pv wv kv sb u l S wr)(hg:aiE w.heap.size wr w')(hq:qI w' w.heap.size u' l'):NiI w pv wv kv sb u' l' S w':=by
 refine⟨h.below.trans hg.below,?_,h.s.keep (hg.oth _ h.s.lt fun cur=>h.s.not cur _),hq⟩;show _=_;rw[hg.oth _ h.k.lt (fun cur e=>by
  have h2:wr.heap[w.heap.size]?=_:=h.k;rw[h2]at e;injection Option.some.inj e with _ e5 _
  exact absurd e5 (by decide))]
 exact h.k
theorem NiI.mark{w:WD}{pv wv kv:Av}{sb:Nat}{u:Av}{l:List BY}{S S':BY->Nat}{wr:WD}{o:Obj}(h:NiI w pv wv kv sb u l S wr)(hsb:w.heap.size<sb)(hs:sD (setBlock wr sb o) sb S'):NiI w pv wv kv sb u l S' (setBlock wr sb o):=by
 refine⟨h.below.trans (Gp oo),?_,hs,h.q.keep fun k cur hk=>qB (fun e=>?_)⟩
 .show _=_;rw[qB oo];exact h.k
 .subst e;exact h.s.not cur _ hk
theorem Md(B:Nat)(p:aI)(a:Option Addr)(cap:Nat)(wa:Option Addr)(wc:Nat)(bs:List Nat)(kb:Nat)(F:Nat->BY->Option jS)(lp:Nat->BY->Bool)(e:Nat)(s:BY)(w:WD)(h:lV B w p a cap wa wc bs kb F lp)(hs:s.size<=4000000)(he:e<p.length)
  (U:List BY) (hUl:U.length<=50000) (hU:∀q,∀z∈yO (kJ F) e q,z∈U/\z.size<=4000000) (hF:∀q x,F e q=some x->dL x.val<=12000) (hlp:lp e s=true↔Sp.Way (yO (kJ F) e) s s):
  Calls prog 103 #[.agg #[.slice a p.length cap,.slice wa bs.length wc,.map (some kb)],.int .i64 (e:Int),.string s] w
   fun ex w'=>ex=.returned (.bool (custom s&&lp e s))/\Below w.heap.size w w':=by
 have hmm:=@run_makeMap prog;have B0:Hid (Below w.heap.size w (w.alloc (.cells #[.slice a p.length cap,.slice wa bs.length wc,.map (some kb)] 77))):=Ax.alloc nl _;have K0:Hid (K3 (w.alloc (.cells #[.slice a p.length cap,.slice wa bs.length wc,.map (some kb)] 77)) w.heap.size (.slice a p.length cap) (.slice wa bs.length wc) (.map (some kb))):=K3.new _ _ _ _;have HC:Hid (∀wx,Below w.heap.size w wx->lV B wx p a cap wa wc bs kb F lp):=fun wx hb=>h.below hb;have HFx:=hid hF;obtain⟨nb,Gi⟩:=Nm (yO (kJ F) e);rw[Gi.o]at hU hlp;have HU:=hid hU;have HU1:Hid (∀y,∀z∈nb y,z∈U):=fun y z hz=>(hU y z hz).1;have HM:Hid (∀y,(nb y).length<=12000):=by
  intro y;rw[<-Gi.o];cases hfy:F e y with
  |none=>rw[DW hfy];simp
  |some x=>rw[yR hfy];exact Nat.le_trans (DT _) (hF y x hfy)
 have HLP:=hid hlp;clear h hF hU hlp;obtain⟨z,Hz⟩:=Nm (custom s);rw[Hz.o];go_in;go_wp2_with fail;generalize hw0:w.alloc (.cells #[.slice a p.length cap,.slice wa bs.length wc,.map (some kb)] 77)=w0 at *;have hs0:w0.heap.size=w.heap.size+1:=by rw[<-hw0];simp
 clear hw0;refine(rE s w0).mono ?_;rw[Hz.o];rintro ex wq ⟨rfl,hwq⟩;rw[hwq];clear hwq;cases z
 .go_wp2_with fail;go_ret;exact⟨rfl,B0.o⟩
 .have M1:Hid (pY 9 (w0.alloc (.map #[] 0)) w0.heap.size (fun _=>none)):=pY.new _ _;have X1:Hid (Below w0.heap.size w0 (w0.alloc (.map #[] 0))):=Ax.alloc nl _;go_upto_region 4 with fail
  generalize w0.alloc (.map #[] 0)=w1 at *;obtain⟨sb,Hsb⟩:=Nm (w.heap.size+1);have hsb:=Hsb.o;have al8:w.heap.size<sb:=oo;have S1:Hid (sD w1 sb (fun _=>0)):=by have q:=M1.o;rw[show w0.heap.size=sb by omega]at q;exact⟨_,q,fun _=>rfl⟩
  have K1:=hid (K0.o.below X1.o);have B1:=hid (B0.o.trans (X1.o.mono oo));rw[Hsb.o];clear X1 K0 M1;obtain⟨k0,k1,k2⟩:=K1.o.cs;have HN:=hid (KF B p a cap wa wc bs kb F lp e s w1 (HC.o w1 B1.o) hs he (HFx.o s));rw[Gi.o]at HN;go_wp2_with fail;refine HN.o.mono ?_;rintro ex w2 ⟨⟨u,rfl,hrow⟩,hb2⟩;have hs1:=B1.o.size;have I2:Hid (NiI w (.slice a p.length cap) (.slice wa bs.length wc) (.map (some kb)) sb u (nb s) (fun _=>0) w2):=⟨B1.o.trans (hb2.mono hs1),K1.o.below hb2,S1.o.keep (hb2.block _ S1.o.lt),qI.of (DV hrow hs1)⟩
  have N2:Hid (XV nb s U 12000 (U.length*(12000+1)+12000) (fun _=>0) (nb s) (U.length*(12000+1)+12000)):=XV.start HU1.o HM.o;clear hb2 hrow k0 k1 k2 K1 S1 HN;obtain⟨T,HT⟩:=Nm (U.length*(12000+1)+12000);have hT:T<=650000000:=by have:=HT.o;omega
  rw[HT.o]at N2;obtain⟨ua,uc,rfl⟩:=I2.o.q.form;go_wp2_with fail;go_loopg[8] T (fun gg v8 wr=>∃(u:Av) (l:List BY) (S:BY->Nat),u=v8/\Aside (NiI w (.slice a p.length cap) (.slice wa bs.length wc) (.map (some kb)) sb u l S wr/\XV nb s U 12000 T S l gg));case atStart=>exact⟨_,nb s,fun _=>0,rfl,I2.o,N2.o⟩
  case round=>
   obtain⟨u,l,S,rfl,hA⟩:=hrel;have I3:=hid hA.o.1;have N3:=hid hA.o.2;clear hA;cases l with
   |nil=>
    obtain⟨ua3,uc3,rfl⟩:=I3.o.q.form;have HV:Hid (lp e s=false):=by
     show _=_;cases hq:lp e s with
     |false=>rfl
     |true=>exact absurd (HLP.o.1 hq) N3.o.done
    go_wp2_with fail;go_ret;exact⟨by rw[HV.o];rfl,I3.o.below⟩
   |cons nm r=>
    obtain⟨g,o,cp,u',rfl,hcp,c0,hsl,hq'⟩:=I3.o.q.head;have h1:(0:Int)<((r.length+1:Nat):Int):=oo;have I4:Hid (NiI w (.slice a p.length cap) (.slice wa bs.length wc) (.map (some kb)) sb u' r S wr):=⟨I3.o.below,I3.o.k,I3.o.s,hq'⟩;have hnU:nm.size<=4000000:=by
     have hw:=N3.o.way nm Ab;cases hw with
     |one hb=>exact(HU.o _ _ hb).2
     |more _ hc=>exact(HU.o _ _ hc).2
    obtain⟨ua4,uc4,rfl⟩:=hq'.form;have hms:=N3.o.ms;simp only[List.length_cons]at hms;have hct:=N3.o.cnt nm;clear hq' I3;have hnm:(nm.toList==s.toList)=decide (nm=s):=bytes_beq _ _;by_cases en:nm=s
    .rw[decide_eq_true en]at hnm;have HV:Hid (lp e s=true):=HLP.o.2 (by have:=N3.o.way nm Ab;rwa[en]at this);clear en;go_wp2_with fail;go_ret;exact⟨by rw[HV.o];rfl,I4.o.below⟩
    .rw[decide_eq_false en]at hnm;have HNE:=hid en;clear en;have hlk:=I4.o.s.look hnU;obtain⟨sn,Hsn⟩:=Nm (S nm);rw[Hsn.o]at hlk;rw[Hsn.o]at hct;obtain⟨k0,k1,k2⟩:=I4.o.k.cs;by_cases h0:sn=0
     .subst h0;have HN:=hid (KF B p a cap wa wc bs kb F lp e nm wr (HC.o wr I4.o.below) hnU he (HFx.o nm));rw[Gi.o]at HN;have NF:=hid (N3.o.fresh HU1.o HM.o HNE.o Hsn.o);have hlb:r.length+(nb nm).length<=1000000000:=by have:=HM.o nm;omega
      go_wp2_with fail;refine HN.o.mono ?_;rintro ex w5 ⟨⟨u5,rfl,hrow⟩,hb5⟩;have I5:=hid (I4.o.next hb5);have R5:=hid hrow;have hs5:=I5.o.below.size;clear hb5 hrow k0 k1 k2 c0 hsl hlk HN I4;go_wp2_with(at_builtin;go_must(refine KG rfl _ _ rfl w.heap.size _ r rfl I5.o.q u5 (nb nm) rfl R5.o hlb hs5 ?_));intro v6 w6 hq6 hg6;have I6:=hid (I5.o.grow hg6 hq6);clear hq6 hg6 I5 R5;have hlk:=I6.o.s.look hnU;rw[Hsn.o]at hlk;obtain⟨ob,hup,hM⟩:=I6.o.s.upd hnU;rw[Hsn.o]at hup;have anH:(Instr.mapUpdate 258 (.map (some sb)) (.string nm) (.int .i64 1)).run prog w6=.ok () (setBlock w6 sb ob):=hup;have anI:(Instr.lookup 258 (.map (some sb)) (.string nm) false).run prog w6=.ok (.int .i64 0) w6:=hlk;have I7:=hid (I6.o.mark al8 hM);clear hM hup hlk;go_wp2_with fail;go_roundg(gk-1);case measure=>omega
      case rel=>exact⟨_,_,_,rfl,I7.o,NF.o⟩
     .have hz0:((sn:Int)==0)=false:=by rw[beq_eq_false_iff_ne];omega
      have hz1:¬(sn:Int)=0:=oo;have NF:=hid (N3.o.old HNE.o (by rw[Hsn.o];exact h0));obtain⟨ob,hup,hM⟩:=I4.o.s.upd hnU;rw[Hsn.o]at hup;have I7:=hid (I4.o.mark al8 hM);clear hM h0;have hw64:IntKind.i64.wrap ((sn:Int)+1)=(sn:Int)+1:=by rw[IntKind.wrap_i64];omega
      go_wp2_with fail;go_roundg(gk-1);case measure=>omega
      case rel=>exact⟨_,_,_,rfl,I7.o,NF.o⟩
end
