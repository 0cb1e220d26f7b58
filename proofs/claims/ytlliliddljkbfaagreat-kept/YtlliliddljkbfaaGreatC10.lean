import Derived.Test.YtlliliddljkbfaaGreatC9
import Derived.Laws.AppendOwnNone
set_option maxHeartbeats 64000000
set_option maxRecDepth 100000
namespace Go.Proofs.YtlliliddljkbfaaGreat
open Go.Proofs.Tryz (prog)
open Go.RowKit Sp
theorem aeU(nm how v:BY)(w:WD):
  Calls prog 343 #[.agg #[.string nm,.string how,.string v]] w fun ex w'=>ex=.returned (DC 0 1 0)/\Below w.heap.size w w':=by
 unfold DC;have A0:=wQ w (.cells #[.string nm,.string how,.string v] 341);have B0:=Gf w (.cells #[.string nm,.string how,.string v] 341);go_in;go_upto_region 1 with fail
 generalize(w.alloc (.cells #[.string nm,.string how,.string v] 341)).alloc (.cells #[.int .i64 0,.int .i64 0,.int .i64 0] 177)=w2 at *;obtain⟨r0,r1,r2⟩:=A0.o.cs;have f0:=A0.o.fz 0;have f1:=A0.o.fz 1;have f2:=A0.o.fz 2;go_wp2_with fail;refine bodyPost_ret (v:=.agg #[.int .i64 0,.int .i64 1,.int .i64 0]) (by simp[results,Tryz.results343,go_sem,r0,r1,r2]) rfl ?_;exact⟨rfl,jR B0.o oo _ _ _⟩
theorem abz(nm:BY)(w:WD):
  Calls prog 357 #[.agg #[.string nm]] w fun ex w'=>ex=.returned (DC 0 1 0)/\Below w.heap.size w w':=by
 unfold DC;have A0:=wQ w (.cells #[.string nm] 343);have B0:=Gf w (.cells #[.string nm] 343);go_in;go_upto_region 1 with fail
 generalize(w.alloc (.cells #[.string nm] 343)).alloc (.cells #[.int .i64 0,.int .i64 0,.int .i64 0] 177)=w2 at *;obtain⟨r0,r1,r2⟩:=A0.o.cs;have f0:=A0.o.fz 0;have f1:=A0.o.fz 1;have f2:=A0.o.fz 2;go_wp2_with fail;refine bodyPost_ret (v:=.agg #[.int .i64 0,.int .i64 1,.int .i64 0]) (by simp[results,Tryz.results357,go_sem,r0,r1,r2]) rfl ?_;exact⟨rfl,jR B0.o oo _ _ _⟩
theorem abA(nm:BY)(n:Int)(w:WD):
  Calls prog 373 #[.agg #[.string nm,.int .i64 n]] w fun ex w'=>ex=.returned (DC 0 1 0)/\Below w.heap.size w w':=by
 unfold DC;have A0:=wQ w (.cells #[.string nm,.int .i64 n] 351);have B0:=Gf w (.cells #[.string nm,.int .i64 n] 351);go_in;go_upto_region 1 with fail
 generalize(w.alloc (.cells #[.string nm,.int .i64 n] 351)).alloc (.cells #[.int .i64 0,.int .i64 0,.int .i64 0] 177)=w2 at *;obtain⟨r0,r1,r2⟩:=A0.o.cs;have f0:=A0.o.fz 0;have f1:=A0.o.fz 1;have f2:=A0.o.fz 2;go_wp2_with fail;refine bodyPost_ret (v:=.agg #[.int .i64 0,.int .i64 1,.int .i64 0]) (by simp[results,Tryz.results373,go_sem,r0,r1,r2]) rfl ?_;exact⟨rfl,jR B0.o oo _ _ _⟩
theorem ahC(la:Option Addr)(ln lc:Nat)(x:lU)(w:WD)
  (hf:∀w',Below w.heap.size w w'->Calls prog 323 #[.slice la ln lc] w' fun ex w''=>ex=.returned (Pq x)/\Below w'.heap.size w' w''):
  Calls prog 366 #[.agg #[.slice la ln lc]] w fun ex w'=>ex=.returned (Pq x)/\Below w.heap.size w w':=by
 unfold Pq DC at *;have A0:=wQ w (.cells #[.slice la ln lc] 345);have B0:=Gf w (.cells #[.slice la ln lc] 345);have V0:Hid (bU ((w.alloc (.cells #[.slice la ln lc] 345)).alloc (.cells #[.int .i64 0,.int .i64 0,.int .i64 0] 177)) w.heap.size (.slice la ln lc) 345):=(bU.new w _ _).alloc _;have HF:Hid (∀w',Below w.heap.size w w'->Calls prog 323 #[.slice la ln lc] w' fun ex w''=>ex=.returned (.agg #[.int .i64 (x.1:Int),.int .i64 (x.2.1:Int),.int .i64 (x.2.2:Int)])/\Below w'.heap.size w' w''):=hf;clear hf;go_in;go_upto_region 1 with fail
 generalize(w.alloc (.cells #[.slice la ln lc] 345)).alloc (.cells #[.int .i64 0,.int .i64 0,.int .i64 0] 177)=w2 at *;have c0:=V0.o.c;have HC:=hid (HF.o w2 B0.o);have hs2:=B0.o.size;go_wp2_with fail;refine HC.o.mono ?_;rintro e w3 ⟨rfl,hb3⟩;have A3:Hid (W3 w3 (w.heap.size+1) 0 0 0):=A0.o.below hb3 A0.o.lt;have B3:=hid (B0.o.trans (hb3.mono hs2));clear hb3 c0;obtain⟨r0,r1,r2⟩:=A3.o.cs;have f0:=A3.o.fz 0;have f1:=A3.o.fz 1;have f2:=A3.o.fz 2;go_wp2_with fail;refine bodyPost_ret (v:=.agg #[.int .i64 (x.1:Int),.int .i64 (x.2.1:Int),.int .i64 (x.2.2:Int)]) (by simp[results,Tryz.results366,go_sem,r0,r1,r2]) rfl ?_;exact⟨rfl,jR B3.o oo _ _ _⟩
theorem akh(la:Option Addr)(ln lc:Nat)(x:lU)(w:WD)
  (hf:∀w',Below w.heap.size w w'->Calls prog 323 #[.slice la ln lc] w' fun ex w''=>ex=.returned (Pq x)/\Below w'.heap.size w' w''):
  Calls prog 370 #[.agg #[.slice la ln lc]] w fun ex w'=>ex=.returned (Pq x)/\Below w.heap.size w w':=by
 unfold Pq DC at *;have A0:=wQ w (.cells #[.slice la ln lc] 346);have B0:=Gf w (.cells #[.slice la ln lc] 346);have V0:Hid (bU ((w.alloc (.cells #[.slice la ln lc] 346)).alloc (.cells #[.int .i64 0,.int .i64 0,.int .i64 0] 177)) w.heap.size (.slice la ln lc) 346):=(bU.new w _ _).alloc _;have HF:Hid (∀w',Below w.heap.size w w'->Calls prog 323 #[.slice la ln lc] w' fun ex w''=>ex=.returned (.agg #[.int .i64 (x.1:Int),.int .i64 (x.2.1:Int),.int .i64 (x.2.2:Int)])/\Below w'.heap.size w' w''):=hf;clear hf;go_in;go_upto_region 1 with fail
 generalize(w.alloc (.cells #[.slice la ln lc] 346)).alloc (.cells #[.int .i64 0,.int .i64 0,.int .i64 0] 177)=w2 at *;have c0:=V0.o.c;have HC:=hid (HF.o w2 B0.o);have hs2:=B0.o.size;go_wp2_with fail;refine HC.o.mono ?_;rintro e w3 ⟨rfl,hb3⟩;have A3:Hid (W3 w3 (w.heap.size+1) 0 0 0):=A0.o.below hb3 A0.o.lt;have B3:=hid (B0.o.trans (hb3.mono hs2));clear hb3 c0;obtain⟨r0,r1,r2⟩:=A3.o.cs;have f0:=A3.o.fz 0;have f1:=A3.o.fz 1;have f2:=A3.o.fz 2;go_wp2_with fail;refine bodyPost_ret (v:=.agg #[.int .i64 (x.1:Int),.int .i64 (x.2.1:Int),.int .i64 (x.2.2:Int)]) (by simp[results,Tryz.results370,go_sem,r0,r1,r2]) rfl ?_;exact⟨rfl,jR B3.o oo _ _ _⟩
theorem ahD (nm how v : BY) (W : WD) : (method 503 341 (.agg #[.string nm, .string how, .string v]) "rinse/selectors.weight").run prog W = .ok (343, .agg #[.string nm, .string how, .string v]) W := by kernel_rfl
theorem aeV (nm : BY) (W : WD) : (method 503 343 (.agg #[.string nm]) "rinse/selectors.weight").run prog W = .ok (357, .agg #[.string nm]) W := by kernel_rfl
theorem aeW (nm : BY) (n : Int) (W : WD) : (method 503 351 (.agg #[.string nm, .int .i64 n]) "rinse/selectors.weight").run prog W = .ok (373, .agg #[.string nm, .int .i64 n]) W := by kernel_rfl
theorem aki (lv : Av) (W : WD) : (method 503 345 (.agg #[lv]) "rinse/selectors.weight").run prog W = .ok (366, .agg #[lv]) W := by kernel_rfl
theorem alZ (lv : Av) (W : WD) : (method 503 346 (.agg #[lv]) "rinse/selectors.weight").run prog W = .ok (370, .agg #[lv]) W := by kernel_rfl
def Uw(P:Simple->lU)(x:lU):List Simple->lU
 |[]=>x
 |s::r=>Uw P (Bg x (P s)) r
def GR(P:Simple->lU)(x:lU):List Step->lU
 |[]=>x
 |(_,all)::r=>GR P (Uw P x all) r
theorem aeX(P:Simple->lU)(x:lU){l:List Simple}{i:Nat}(h:i<l.length):Uw P x (l.drop i)=Uw P (Bg x (P l[i])) (l.drop (i+1)):=by rw[List.drop_eq_getElem_cons h];rfl
theorem aeY(P:Simple->lU)(x:lU){l:List Step}{i:Nat}(h:i<l.length):GR P x (l.drop i)=GR P (Uw P x l[i].2) (l.drop (i+1)):=by rw[List.drop_eq_getElem_cons h];generalize l[i]=st;obtain⟨cb,all⟩:=st;rfl
theorem XP(P:Simple->lU):∀(l:List Simple) (x:lU),sumW x<=sumW (Uw P x l)
 |[],_=>Nat.le_refl _
 |s::r,x=>by have:=XP P r (Bg x (P s));rw[sum_add]at this;show sumW x<=sumW (Uw P (Bg x (P s)) r);omega
theorem aeZ(P:Simple->lU):∀(l:List Step) (x:lU),sumW x<=sumW (GR P x l)
 |[],_=>Nat.le_refl _
 |(_,all)::r,x=>Nat.le_trans (XP P all x) (aeZ P r _)
def PN(f B:Nat)(w:WD)(P:Simple->lU):Prop:=
 ∀(x:Simple),zS x<=1000000->∀(w':WD),Below w.heap.size w w'->∀pv,aQ f (fun b=>b<B) w' x [pv] ->
  ∃ T u K rcv, pv = .iface T u ∧ (∀ W : WD, (method 503 T u "rinse/selectors.weight").run prog W = .ok (K, rcv) W) ∧ (∀ (args : Array Av) (W : WD), (callFunc K args).run prog W = .ok (.enter K args) W) ∧
   ∀w2,Below w'.heap.size w' w2->Calls prog K #[rcv] w2 fun e w''=>e=.returned (Pq (P x))/\Below w2.heap.size w2 w''
theorem akj(f B:Nat)(P:Simple->lU)(cx:List Step)(v:Av)(w:WD)(h:SG (fO (aQ f)) 2 (fun b=>b<B) w v cx)(hB:B<=w.heap.size)(hr:PN f B w P)(hz:∀st∈cx,∀s∈st.2,zS s<=1000000)(hn:sumW (GR P (0,0,0) cx)<=1000000):
  Calls prog 155 #[v] w fun ex w'=>ex=.returned (Pq (GR P (0,0,0) cx))/\Below w.heap.size w w':=by
 have hl:=h.len;have I0:Hid (Bh w (0,0,0) ((w.alloc (.cells #[.int .i64 0,.int .i64 0,.int .i64 0] 177)).alloc (.cells #[.int .i64 0,.int .i64 0,.int .i64 0] 177))):=⟨(W3.new w 0 0 0).alloc _,(wQ w _).o,(Gf w _).o,by simp⟩
 have hF:Hid (Fair (fO (aQ f))):=fO.fair (aQ.fair f);have hF2:Hid (Fair (aQ f)):=aQ.fair f;have HS:=hid h;have HRD:Hid (PN f B w P):=hr;have HZ:Hid (∀st∈cx,∀s∈st.2,zS s<=1000000):=hz;obtain⟨ca,cc,rfl⟩:=h.form;clear h hr hz;obtain⟨R,HR⟩:=Nm (GR P (0,0,0) cx);rw[HR.o]at hn;have HRL:Hid (sumW R<=1000000):=hn;clear hn;rw[HR.o];go_in;go_wp2_with fail;generalize(w.alloc (.cells #[.int .i64 0,.int .i64 0,.int .i64 0] 177)).alloc (.cells #[.int .i64 0,.int .i64 0,.int .i64 0] 177)=w0 at *;go_loopg[10] cx.length (fun gg v10 wr=>∃(x:lU) (i:Nat),v10=.int .i64 (i:Int)/\i+gg=cx.length/\Aside (GR P x (cx.drop i)=R/\Bh w x wr));case atStart=>exact⟨(0,0,0),0,rfl,oo,HR.o,I0.o⟩
 case round=>
  obtain⟨go,hgo⟩:∃go,go=gk:=⟨_,rfl⟩;obtain⟨x,i,rfl,hi,hA⟩:=hrel;have HC:Hid (GR P x (cx.drop i)=R/\Bh w x wr):=hA.o;clear hA;have hsr:=HC.o.2.below.size;by_cases hlt:i<cx.length
  .have h1:(i:Int)<(cx.length:Int):=oo;obtain⟨g,o,rfl,hL,hcap⟩:=HS.o.here (by rintro rfl;simp at hlt);obtain⟨av,d0,d1,hav,hgB⟩:=hL.stq (i:=i) hlt;have agf:g<B:=hgB;rw[<-HC.o.2.below.cell (p:=⟨g,_,none⟩) (show g<w.heap.size by omega)]at d0 d1;have hza:=HZ.o cx[i] (List.getElem_mem hlt);have HD:Hid (GR P x (cx.drop i)=GR P (Uw P x cx[i].2) (cx.drop (i+1))):=aeY P x hlt;generalize cx[i]=st at *;obtain⟨cb,all⟩:=st;have HZA:Hid (∀s∈all,zS s<=1000000):=hza;clear hza;have Ze:Hid (GR P (Uw P x (all.drop 0)) (cx.drop (i+1))=R):=HD.o.symm.trans HC.o.1;have PL:SG (aQ f) 1 (fun b=>b<B) w av all:=hav;have HAV:=hid PL;have hal:=PL.len;obtain⟨la,lc,rfl⟩:=PL.form;have d0':wr.cell? ⟨g,o+i*2,none⟩=some (.int .i64 (sG cb)):=d0;clear hav PL hL HD d0
   have T2:Hid (Vj (wr.alloc (.cells #[.int .i64 (sG cb),.slice la all.length lc] 219)) wr.heap.size (.int .i64 (sG cb)) (.slice la all.length lc)):=Vj.new _ _ _;have I2:Hid (Bh w x (wr.alloc (.cells #[.int .i64 (sG cb),.slice la all.length lc] 219))):=HC.o.2.next (As.alloc nl _);go_upto_region 5 with fail
   generalize wr.alloc (.cells #[.int .i64 (sG cb),.slice la all.length lc] 219)=w2 at *;obtain⟨gt,mV⟩:=Nm wr.heap.size;have T3:Hid (Vj w2 gt (.int .i64 (sG cb)) (.slice la all.length lc)):=by rw[<-mV.o];exact T2.o
   rw[mV.o];clear T2 d0' d1;obtain⟨a0,a1⟩:=T3.o.cs;go_wp2_with fail;go_loopg[17] all.length (fun gg v17 wr=>∃(x:lU) (m:Nat),v17=.int .i64 (m:Int)/\m+gg=all.length/\Aside (GR P (Uw P x (all.drop m)) (cx.drop (i+1))=R/\Bh w x wr));case atStart=>exact⟨x,0,rfl,oo,Ze.o,I2.o⟩
   case round=>
    obtain⟨gi,hgi⟩:∃gi,gi=gk:=⟨_,rfl⟩;obtain⟨y,m,rfl,hm,hA⟩:=hrel;have xg:Hid (GR P (Uw P y (all.drop m)) (cx.drop (i+1))=R/\Bh w y wr):=hA.o;clear hA;by_cases hlm:m<all.length
    .have h2:(m:Int)<(all.length:Int):=oo;have QY:=HAV.o.below hF2.o xg.o.2.below oo;obtain⟨g5,o5,rfl,hL5,hcap5⟩:=QY.here (by rintro rfl;simp at hlm);obtain⟨pv,c5,hps,_⟩:=hL5.prq (i:=m) hlm;have HAD:=aeX P y hlm;have hzs:=HZA.o all[m] (List.getElem_mem hlm);generalize all[m]=s at *;obtain⟨T,pu,K,rcv,rfl,YD,hcall,hC⟩:=HRD.o s hzs wr xg.o.2.below _ hps;obtain⟨t,Ht⟩:=Nm (P s);rw[Ht.o]at hC HAD;have sH:Hid (∀w',Below wr.heap.size wr w'->Calls prog K #[rcv] w' fun e w''=>e=.returned (DC (t.1:Int) (t.2.1:Int) (t.2.2:Int))/\Below w'.heap.size w' w''):=hC;have HE:Hid (GR P (Uw P (Bg y t) (all.drop (m+1))) (cx.drop (i+1))=R):=by
      have q:=xg.o.1;rw[HAD]at q;exact q
     have hle:sumW (Bg y t)<=1000000:=by have q:=aeZ P (cx.drop (i+1)) (Uw P (Bg y t) (all.drop (m+1)));rw[HE.o]at q;have q2:=XP P (all.drop (m+1)) (Bg y t);have q3:=HRL.o;omega
     have hsum:=sum_add y t;have hy1:y.1+y.2.1+y.2.2<=1000000:=by unfold sumW at hsum hle;omega
     have ht1:t.1+t.2.1+t.2.2<=1000000:=by unfold sumW at hsum hle;omega
     clear hps hC HAD hL5 QY hle hsum hzs;obtain⟨b0,b1,b2⟩:=W3.cs xg.o.2.all;have z0:=W3.fz xg.o.2.all 0;have z1:=W3.fz xg.o.2.all 1;have z2:=W3.fz xg.o.2.all 2;have HI5:=hid xg.o.2;clear xg;go_wp2_with fail;go_region_with (first
      |(go_at_call 225;refine pmb (ajI _ _ _ _ _ _ _ ⟨oo,oo⟩ ⟨oo,oo⟩ ⟨oo,oo⟩ ⟨oo,oo⟩ ⟨oo,oo⟩ ⟨oo,oo⟩) fun w7 hb7=>?_;unfold DC;have HI7:=hid (HI6.o.next hb7);clear hb7 b0 b1 b2 z0 z1 z2 HI6;obtain⟨b0,b1,b2⟩:=W3.cs HI7.o.all;have z0:=W3.fz HI7.o.all 0;have z1:=W3.fz HI7.o.all 1;have z2:=W3.fz HI7.o.all 2)
      |(refine pmb (sH.o _ (by first|exact Below.refl _ _|exact As.drew)) fun w6 hb6=>?_;unfold DC;have HI6:=hid ((by first|exact HI5.o.drew.next hb6|exact HI5.o.next hb6));clear hb6 b0 b1 b2 z0 z1 z2;obtain⟨b0,b1,b2⟩:=W3.cs HI6.o.all;have z0:=W3.fz HI6.o.all 0;have z1:=W3.fz HI6.o.all 1;have z2:=W3.fz HI6.o.all 2))
     all_goals
      have HI9:=hid (HI7.o.set2 y t);clear HI7 b0 b1 b2 z0 z1 z2 c5 a0 a1;generalize((w7.setCell ⟨w.heap.size+1,0,none⟩ (.int .i64 ((y.1:Int)+(t.1:Int)))).setCell ⟨w.heap.size+1,1,none⟩ (.int .i64 ((y.2.1:Int)+(t.2.1:Int)))).setCell ⟨w.heap.size+1,2,none⟩ (.int .i64 ((y.2.2:Int)+(t.2.2:Int)))=w8 at *;go_wp2_with fail;go_roundg(gi-1);case measure=>omega
      case rel=>exact⟨Bg y t,m+1,by congr 1,oo,HE.o,HI9.o⟩
    .have h2:(all.length:Int)<=(m:Int):=oo;have HE:Hid (GR P y (cx.drop (i+1))=R):=by
      show _=_;rw[<-xg.o.1,List.drop_of_length_le (show all.length<=m by omega)];rfl
     go_wp2_with fail;go_roundg(go-1);case measure=>omega
     case rel=>exact⟨y,i+1,by congr 1,oo,HE.o,xg.o.2⟩
  .have h1:(cx.length:Int)<=(i:Int):=oo;have HV:Hid (x=R):=by
    show _=_;rw[<-HC.o.1,List.drop_of_length_le (show cx.length<=i by omega)];rfl
   obtain⟨b0,b1,b2⟩:=W3.cs HC.o.2.all;obtain⟨r0,r1,r2⟩:=HC.o.2.res.cs;have z0:=HC.o.2.res.fz 0;have z1:=HC.o.2.res.fz 1;have z2:=HC.o.2.res.fz 2;go_wp2_with fail;refine bodyPost_ret (v:=.agg #[.int .i64 (x.1:Int),.int .i64 (x.2.1:Int),.int .i64 (x.2.2:Int)]) (by simp[results,Tryz.results155,go_sem,r0,r1,r2]) rfl ?_;exact⟨by rw[<-HV.o];rfl,jR HC.o.2.below nl _ _ _⟩
def lsW(C:List Step->lU)(x:lU):bY->lU
 |[]=>x
 |c::r=>lsW C (if 0<JQ (C c) x then C c else x) r
theorem ae0(C:List Step->lU)(x:lU){l:bY}{i:Nat}(h:i<l.length):lsW C x (l.drop i)=lsW C (if 0<JQ (C l[i]) x then C l[i] else x) (l.drop (i+1)):=by rw[List.drop_eq_getElem_cons h];rfl
theorem akk(w:WD)(x:lU):W3n (w.alloc (.cells #[.int .i64 (x.1:Int),.int .i64 (x.2.1:Int),.int .i64 (x.2.2:Int)] 177)) w.heap.size x:=W3.new _ _ _ _
theorem aiz(f B:Nat)(C:List Step->lU)(l:bY)(v:Av)(w:WD)(h:SG (AA (aQ f)) 1 (fun b=>b<B) w v l)(hB:B<=w.heap.size)
  (hC:∀c∈l,∀(cv:Av) (w':WD),Below w.heap.size w w'->SG (fO (aQ f)) 2 (fun b=>b<B) w' cv c->Calls prog 155 #[cv] w' fun ex w''=>ex=.returned (Pq (C c))/\Below w'.heap.size w' w''):
  Calls prog 323 #[v] w fun ex w'=>ex=.returned (Pq (lsW C (0,0,0) l))/\Below w.heap.size w w':=by
 have hl:=h.len;have I0:Hid (Bh w (0,0,0) ((w.alloc (.cells #[.int .i64 0,.int .i64 0,.int .i64 0] 177)).alloc (.cells #[.int .i64 0,.int .i64 0,.int .i64 0] 177))):=⟨(W3.new w 0 0 0).alloc _,(wQ w _).o,(Gf w _).o,by simp⟩
 have hF:Hid (Fair (AA (aQ f))):=One.fair (fO.fair (aQ.fair f));have HS:=hid h;have HCC:Hid (∀c∈l,∀(cv:Av) (w':WD),Below w.heap.size w w'->SG (fO (aQ f)) 2 (fun b=>b<B) w' cv c->Calls prog 155 #[cv] w' fun ex w''=>ex=.returned (Pq (C c))/\Below w'.heap.size w' w''):=hC;obtain⟨ca,cc,rfl⟩:=h.form;clear h hC;obtain⟨R,HR⟩:=Nm (lsW C (0,0,0) l);rw[HR.o];go_in;go_wp2_with fail;generalize(w.alloc (.cells #[.int .i64 0,.int .i64 0,.int .i64 0] 177)).alloc (.cells #[.int .i64 0,.int .i64 0,.int .i64 0] 177)=w0 at *;go_loopg[9] l.length (fun gg v9 wr=>∃(x:lU) (i:Nat),v9=.int .i64 (i:Int)/\i+gg=l.length/\Aside (lsW C x (l.drop i)=R/\Bh w x wr));case atStart=>exact⟨(0,0,0),0,rfl,oo,HR.o,I0.o⟩
 case round=>
  obtain⟨go,hgo⟩:∃go,go=gk:=⟨_,rfl⟩;obtain⟨x,i,rfl,hi,hA⟩:=hrel;have HC:Hid (lsW C x (l.drop i)=R/\Bh w x wr):=hA.o;clear hA;have hsr:=HC.o.2.below.size;by_cases hlt:i<l.length
  .have h1:(i:Int)<(l.length:Int):=oo;have hS5:=HS.o.below hF.o HC.o.2.below hB;obtain⟨g,o,rfl,hL,hcap⟩:=hS5.here (by rintro rfl;simp at hlt);obtain⟨cv,d0,hcv,hgB⟩:=hL.cxq (i:=i) hlt;have hcc:=HCC.o l[i] (List.getElem_mem hlt) cv wr HC.o.2.below hcv;have HD:=ae0 C x hlt;generalize C l[i]=t at *;obtain⟨la,lc,rfl⟩:=hcv.form;generalize l[i].length=ln at *;have Ze:Hid (lsW C (if 0<JQ t x then t else x) (l.drop (i+1))=R):=HD.symm.trans HC.o.1;have sH:Hid (Calls prog 155 #[.slice la ln lc] wr fun ex w''=>ex=.returned (.agg #[.int .i64 (t.1:Int),.int .i64 (t.2.1:Int),.int .i64 (t.2.2:Int)])/\Below wr.heap.size wr w''):=hcc;have HW:=hid HC.o.2;clear hcv hcc HD hL hS5 HC;go_wp2_with fail;refine sH.o.mono ?_;rintro e w1 ⟨rfl,hb1⟩;have I1:=hid (HW.o.next hb1);clear hb1 sH d0 HW
   have T2:Hid (W3n (w1.alloc (.cells #[.int .i64 (t.1:Int),.int .i64 (t.2.1:Int),.int .i64 (t.2.2:Int)] 177)) w1.heap.size t):=akk _ _;have I2:Hid (Bh w x (w1.alloc (.cells #[.int .i64 (t.1:Int),.int .i64 (t.2.1:Int),.int .i64 (t.2.2:Int)] 177))):=I1.o.next (As.alloc nl _);go_upto_region 6 with fail
   generalize w1.alloc (.cells #[.int .i64 (t.1:Int),.int .i64 (t.2.1:Int),.int .i64 (t.2.2:Int)] 177)=w2 at *;obtain⟨gt,mV⟩:=Nm w1.heap.size;rw[mV.o]at T2;rw[mV.o];obtain⟨a0,a1,a2⟩:=W3.cs T2.o;obtain⟨b0,b1,b2⟩:=W3.cs I2.o.all;go_wp2_with fail;refine(Po (t.1:Int) (t.2.1:Int) (t.2.2:Int) (x.1:Int) (x.2.1:Int) (x.2.2:Int) _).mono ?_;obtain⟨c,Hc⟩:=Nm (Pn (t.1:Int) (t.2.1:Int) (t.2.2:Int) (x.1:Int) (x.2.1:Int) (x.2.2:Int));rw[Hc.o];have HCW:Hid (JQ t x=c):=Hc.o;rw[HCW.o]at Ze;rintro ex w3 ⟨rfl,hb3⟩;have I3:=hid (I2.o.next hb3);have T3:Hid (W3n w3 gt t):=W3.below T2.o hb3 (W3.lt T2.o);clear hb3 b0 b1 b2 a0 a1 a2 T2;obtain⟨a0,a1,a2⟩:=W3.cs T3.o;by_cases hc:0<c
   .rw[if_pos hc]at Ze;obtain⟨b0,b1,b2⟩:=W3.cs I3.o.all;have z0:=W3.fz I3.o.all 0;have z1:=W3.fz I3.o.all 1;have z2:=W3.fz I3.o.all 2;have I4:=hid (I3.o.set t);go_wp2_with fail;go_roundg(go-1);case measure=>omega
    case rel=>exact⟨t,i+1,by congr 1,oo,Ze.o,I4.o⟩
   .rw[if_neg hc]at Ze;have hc':c<=0:=oo;go_wp2_with fail;go_roundg(go-1);case measure=>omega
    case rel=>exact⟨x,i+1,by congr 1,oo,Ze.o,I3.o⟩
  .have h1:(l.length:Int)<=(i:Int):=oo;have HV:Hid (x=R):=by
    show _=_;rw[<-HC.o.1,List.drop_of_length_le (show l.length<=i by omega)];rfl
   obtain⟨b0,b1,b2⟩:=W3.cs HC.o.2.all;obtain⟨r0,r1,r2⟩:=HC.o.2.res.cs;have z0:=HC.o.2.res.fz 0;have z1:=HC.o.2.res.fz 1;have z2:=HC.o.2.res.fz 2;go_wp2_with fail;refine bodyPost_ret (v:=.agg #[.int .i64 (x.1:Int),.int .i64 (x.2.1:Int),.int .i64 (x.2.2:Int)]) (by simp[results,Tryz.results323,go_sem,r0,r1,r2]) rfl ?_;exact⟨by rw[<-HV.o];rfl,jR HC.o.2.below nl _ _ _⟩
def Zu(L:bY->lU)(k:Nat)(nm:BY)(l:bY):lU:=if k=116\/k=35\/k=46 then pwt k nm else if k=91 then(0,1,0) else if nm=nD\/nm=DY then L l else(0,1,0)
def Ux(L:bY->lU):Simple->lU
 |.mk k nm _ _ l _=>Zu L k nm l
theorem Uy(L:bY->lU)(k:Nat)(nm how v:BY)(l:bY)(pl:Nat):Ux L (.mk k nm how v l pl)=Zu L k nm l:=rfl
def wA:Nat->Simple->lU
 |0=>Ux (fun _=>(0,0,0))
 |n+1=>Ux (fun l=>lsW (GR (wA n) (0,0,0)) (0,0,0) l)
theorem Kw(L:bY->lU)(k:Nat)(nm how v:BY)(l:bY)(pl:Nat)(la:Option Addr)(ln lc:Nat)(w:WD)
  (hL:∀w',Below w.heap.size w w'->Calls prog 323 #[.slice la ln lc] w' fun ex w''=>ex=.returned (Pq (L l))/\Below w'.heap.size w' w''):
  ∃ T u K rcv, fE k nm how v (.slice la ln lc) pl = .iface T u ∧ (∀ W : WD, (method 503 T u "rinse/selectors.weight").run prog W = .ok (K, rcv) W) ∧ (∀ (args : Array Av) (W : WD), (callFunc K args).run prog W = .ok (.enter K args) W) ∧
   ∀w2,Below w.heap.size w w2->Calls prog K #[rcv] w2 fun e w''=>e=.returned (Pq (Ux L (.mk k nm how v l pl)))/\Below w2.heap.size w2 w'':=by
 have hL2:∀w2,Below w.heap.size w w2->∀w',Below w2.heap.size w2 w'->Calls prog 323 #[.slice la ln lc] w' fun ex w''=>ex=.returned (Pq (L l))/\Below w'.heap.size w' w'':=fun w2 hb w' hb'=>hL w' (hb.trans (hb'.mono hb.size));rw[Uy];unfold Zu;by_cases hk:k=116\/k=35\/k=46
 .rw[if_pos hk];obtain⟨T,u,K,rcv,h1,h2,h3,h4⟩:=agW k nm how v (.slice la ln lc) pl hk;exact⟨T,u,K,rcv,h1,h2,h3,fun w2 _=>h4 w2⟩
 .rw[if_neg hk];unfold fE;rw[if_neg (fun e=>hk (Or.inl e)),if_neg (fun e=>hk (Or.inr (Or.inl e))),if_neg (fun e=>hk (Or.inr (Or.inr e)))];by_cases e1:k=91
  .rw[if_pos e1,if_pos e1];exact⟨_,_,_,_,rfl,ahD nm how v,fun _ _=>rfl,fun w2 _=>aeU nm how v w2⟩
  .rw[if_neg e1,if_neg e1];by_cases e2:nm=nD
   .rw[if_pos e2,if_pos (Or.inl e2)];exact⟨_,_,_,_,rfl,aki _,fun _ _=>rfl,fun w2 hb=>ahC la ln lc (L l) w2 (hL2 w2 hb)⟩
   .rw[if_neg e2];by_cases e3:nm=DY
    .rw[if_pos e3,if_pos (Or.inr e3)];exact⟨_,_,_,_,rfl,alZ _,fun _ _=>rfl,fun w2 hb=>akh la ln lc (L l) w2 (hL2 w2 hb)⟩
    .rw[if_neg e3,if_neg (show ¬(nm=nD\/nm=DY) from fun h=>h.elim e2 e3)];by_cases e4:nm=nG
     .rw[if_pos e4];obtain⟨nm',n',e5⟩:∃(nm':BY) (n':Int),(if pl=0 then Value.agg #[.string sZ,.int .i64 0] else if pl=1 then .agg #[.string l7,.int .i64 0] else .agg #[.string aA,.int .i64 ((pl-2:Nat):Int)])=.agg #[.string nm',.int .i64 n']:=by
       split
       .exact⟨_,_,rfl⟩
       .split
        .exact⟨_,_,rfl⟩
        .exact⟨_,_,rfl⟩
      rw[e5];exact⟨_,_,_,_,rfl,aeW _ _,fun _ _=>rfl,fun w2 _=>abA _ _ w2⟩
     .rw[if_neg e4];exact⟨_,_,_,_,rfl,aeV nm,fun _ _=>rfl,fun w2 _=>abz nm w2⟩
theorem ae1(C:List Step->lU)(z:Nat):∀(l:bY) (x:lU),sumW x<=z->(∀c∈l,sumW (C c)<=z)->sumW (lsW C x l)<=z
 |[],_,h,_=>h
 |c::r,x,h,hl=>ae1 C z r _ (by split;exact hl c Aa;exact h) fun d hd=>hl d (by simp[hd])
theorem Zv:∀(l:bY) (c:List Step),c∈l->zC c<=zL l
 |d::r,c,h=>by
  conv=>rhs;unfold zL
  rcases List.mem_cons.1 h with rfl|h
  .omega
  .have:=Zv r c h;omega
theorem Zw{P:Simple->lU}:∀(l:List Simple) (x:lU),(∀s∈l,sumW (P s)<=zS s)->sumW (Uw P x l)<=sumW x+zA l
 |[],x,_=>by unfold zA;exact Nat.le_refl _
 |s::r,x,h=>by have h1:=h s Aa;have h2:=Zw r (Bg x (P s)) fun t ht=>h t (by simp[ht]);rw[sum_add]at h2;unfold zA;show sumW (Uw P (Bg x (P s)) r)<=_;omega
theorem PO{P:Simple->lU}(h:∀s,sumW (P s)<=zS s):∀(l:List Step) (x:lU),sumW (GR P x l)<=sumW x+zC l
 |[],x=>by unfold zC;exact Nat.le_refl _
 |(b,all)::r,x=>by
  have h1:=Zw all x fun s _=>h s;have h2:=PO h r (Uw P x all);conv=>rhs;unfold zC
  unfold zT;show sumW (GR P (Uw P x all) r)<=_;omega
theorem Uz(L:bY->lU)(hL:∀l,sumW (L l)<=zL l):∀s,sumW (Ux L s)<=zS s:=by
 rintro ⟨k,nm,how,v,l,pl⟩;have h1:=hL l;have h2:=ag9 k nm;have e:sumW ((0,1,0):lU)=1:=rfl;rw[Uy];have hz:zS (.mk k nm how v l pl)=4*nm.size+4*v.size+how.size+120+zL l:=by conv=>lhs;unfold zS
 rw[hz];unfold Zu;repeat' split
 all_goals omega
theorem aiA:∀n s,sumW (wA n s)<=zS s
 |0,s=>Uz _ (fun _=>Nat.zero_le _) s
 |n+1,s=>Uz _ (fun l=>ae1 _ _ l _ (Nat.zero_le _) fun c hc=>by have h1:=PO (aiA n) c (0,0,0);have h2:=Zv l c hc;have e:sumW ((0,0,0):lU)=0:=rfl;omega) s
theorem aiB:∀(l:List Simple) (s:Simple),s∈l->zS s<=zA l
 |t::r,s,h=>by
  conv=>rhs;unfold zA
  rcases List.mem_cons.1 h with rfl|h
  .omega
  .have:=aiB r s h;omega
theorem aiC:∀(c:List Step) (st:Step),st∈c->∀s∈st.2,zS s<=zC c
 |(b,all)::r,st,h,s,hs=>by
  conv=>rhs;unfold zC
  unfold zT;rcases List.mem_cons.1 h with rfl|h
  .have:=aiB all s hs;omega
  .have:=aiC r st h s hs;omega
theorem ae2(n B:Nat)(cx:List Step)(v:Av)(w:WD)(h:SG (fO (aQ n)) 2 (fun b=>b<B) w v cx)(hB:B<=w.heap.size)(hr:PN n B w (wA n))(hz:zC cx<=1000000):
  Calls prog 155 #[v] w fun ex w'=>ex=.returned (Pq (GR (wA n) (0,0,0) cx))/\Below w.heap.size w w':=
 akj n B (wA n) cx v w h hB hr (fun st hst s hs=>Nat.le_trans (aiC cx st hst s hs) hz) (by have h1:=PO (aiA n) cx (0,0,0);have e:sumW ((0,0,0):lU)=0:=rfl;omega)
theorem UA(B:Nat):∀(n:Nat) (w:WD),B<=w.heap.size->PN n B w (wA n)
 |0,w,hB=>by
  rintro ⟨k,nm,how,v,l,pl⟩ hz w' hb pv hx;obtain⟨rfl,la,lc,e⟩:=hx;obtain rfl:pv=fE k nm how v (.slice la 0 lc) pl:=by simpa using e
  refine Kw (fun _=>(0,0,0)) k nm how v [] pl la 0 lc w' ?_;intro w2 hb2;exact aiz 0 B (fun _=>(0,0,0)) [] _ w2 ⟨la,lc,rfl,⟨Nat.zero_le _,by decide⟩,fun hn=>absurd rfl hn⟩ (Nat.le_trans hB (Nat.le_trans hb.size hb2.size)) (fun c hc=>by cases hc)
 |n+1,w,hB=>by
  rintro ⟨k,nm,how,v,l,pl⟩ hz w' hb pv hx;obtain⟨lv,e,hsg⟩:=hx;obtain rfl:pv=fE k nm how v lv pl:=by simpa using e
  obtain⟨la,lc,rfl⟩:=hsg.form;refine Kw (fun l=>lsW (GR (wA n) (0,0,0)) (0,0,0) l) k nm how v l pl la l.length lc w' ?_;intro w2 hb2;have akg:=hsg.below (One.fair (fO.fair (aQ.fair n))) hb2 (Nat.le_trans hB hb.size);have hB2:=Nat.le_trans hB (Nat.le_trans hb.size hb2.size);refine aiz n B (GR (wA n) (0,0,0)) l _ w2 akg hB2 ?_;intro c hc cv w3 hb3 hcv;have hB3:=Nat.le_trans hB2 hb3.size;have h1:=Zv l c hc;have hzs:zS (.mk k nm how v l pl)=4*nm.size+4*v.size+how.size+120+zL l:=by conv=>lhs;unfold zS
  rw[hzs]at hz;exact ae2 n B c cv w3 hcv hB3 (UA B n w3 hB3) oo
def Ky(F:lI)(p:aI)(n:Nat)(cx:List Step):Zd:=(Kv p (Me F p n) 0 cx,GR (wA n) (0,0,0) cx)
theorem XQ(F:lI)(p:aI)(n:Nat){l:bY}{i:Nat}(h:i<l.length):(l.take (i+1)).map (Ky F p n)=(l.take i).map (Ky F p n)++[Ky F p n l[i]]:=by rw[List.take_succ_eq_append_getElem h,List.map_append];rfl
theorem abB(F:lI)(f B:Nat)(l:bY)(v:Av)(p:aI)(a:Option Addr)(cap:Nat)(w:WD)(h:SG (AA (aQ f)) 1 (fun b=>b<B) w v l)(hp:jZ B w p a cap)(hfit:pJ F w)(hk:zL l<=1000000):
  Calls prog 92 #[v,.agg #[.slice a p.length cap]] w fun ex w'=>(∃u,ex=.returned u/\SG DJ 4 (oD w.heap.size w') w' u (l.map (Ky F p f)))/\Below w.heap.size w w':=by
 have hl:=h.len;have hlen:=hp.len;have hBw:=hp.lt;have B0:Hid (Below w.heap.size w (w.alloc (.cells #[.slice a p.length cap] 66))):=As.alloc nl _;have V0:Hid (bU (w.alloc (.cells #[.slice a p.length cap] 66)) w.heap.size (.slice a p.length cap) 66):=bU.new _ _ _;have wX:Hid (jZ B (w.alloc (.cells #[.slice a p.length cap] 66)) p a cap):=hp.alloc _;have hF:Hid (Fair (AA (aQ f))):=One.fair (fO.fair (aQ.fair f));have HS:=hid (h.below hF.o B0.o hBw);have HK:Hid (zL l<=1000000):=hk;have HFT:Hid (pJ F (w.alloc (.cells #[.slice a p.length cap] 66))):=hfit.below B0.o;obtain⟨ca,cc,rfl⟩:=h.form;clear h hp hk hfit;obtain⟨iT,hiT⟩:=aee
 have HI:Hid (prog.info? 248=some iT/\iT.zero=some (.agg #[.int .u64 0,.int .i64 0,.int .i64 0,.int .i64 0])/\iT.size=4/\iT.bytes=32):=hiT;clear hiT;go_in;go_wp2_with fail;generalize hw0:w.alloc (.cells #[.slice a p.length cap] 66)=w0 at *;have HS0:Hid (w0.heap.size=w.heap.size+1):=by show _=_;rw[<-hw0];simp
 clear hw0;obtain⟨pb,Hpb⟩:=Nm w.heap.size;have hpb:=Hpb.o;have hp0:pb<w0.heap.size:=by have:=HS0.o;omega
 rw[hpb]at V0;rw[hpb];go_loopg[5,10] l.length (fun gg v5 v10 wr=>∃(u:Av) (i:Nat),u=v5/\v10=.int .i64 (i:Int)/\i+gg=l.length/\Aside (MG DJ 4 248 w0.heap.size wr u ((l.take i).map (Ky F p f))/\Below w0.heap.size w0 wr));case atStart=>exact⟨_,0,rfl,rfl,oo,MG.nil _ _ _ _ _,As⟩
 case round=>
  obtain⟨go,hgo⟩:∃go,go=gk:=⟨_,rfl⟩;obtain⟨u,i,rfl,rfl,hi,hA⟩:=hrel;have HC:Hid (MG DJ 4 248 w0.heap.size wr u ((l.take i).map (Ky F p f))/\Below w0.heap.size w0 wr):=hA.o;clear hA;have hsr:=HC.o.2.size;have hmn:((l.take i).map (Ky F p f)).length=i:=by rw[List.length_map,List.length_take];omega
  by_cases hlt:i<l.length
  .have h1:(i:Int)<(l.length:Int):=oo;obtain⟨g,o,rfl,hL,hcap⟩:=(HS.o.below hF.o HC.o.2 oo).here (by rintro rfl;simp at hlt);obtain⟨cv,d0,hcv,hgB⟩:=hL.cxq (i:=i) hlt;have HKC:=Nat.le_trans (Zv l l[i] (List.getElem_mem hlt)) HK.o;have HM:Hid ((l.take (i+1)).map (Ky F p f)=(l.take i).map (Ky F p f)++[Ky F p f l[i]]):=XQ F p f hlt;generalize l[i]=cx at *;have wH:=hid hcv;have HKX:Hid (zC cx<=1000000):=HKC;have HRO:=hid (Uu F B p a cap f wr (wX.o.below HC.o.2 wX.o.lt) (HFT.o.below HC.o.2));obtain⟨xa,xc,rfl⟩:=hcv.form;clear hcv hL HKC;have V2:Hid (bU wr pb (.slice a p.length cap) 66):=V0.o.below HC.o.2 oo;have c0:=V2.o.c;have P2:=hid (wX.o.below HC.o.2 wX.o.lt);go_wp2_with fail;refine(aeQ f B (Me F p f) cx _ p a cap _ wH.o P2.o (aeR F p hlen.2 f) HRO.o).mono ?_
   obtain⟨s1,Az⟩:=Nm (Kv p (Me F p f) 0 cx);rw[Az.o];rintro e w3 ⟨rfl,hb3⟩;have X3:=hid (HC.o.2.trans (hb3.mono hsr));have M3:=hid (HC.o.1.below DJ.fair hb3);have C3:=hid (wH.o.below (fO.fair (aQ.fair f)) hb3 P2.o.lt);clear hb3 c0 V2 P2 wH d0;have hs3:=X3.o.size;go_wp2_with fail;refine(ae2 f B cx _ _ C3.o oo (UA B f w3 oo) HKX.o).mono ?_;obtain⟨t,Ht⟩:=Nm (GR (wA f) (0,0,0) cx);rw[Ht.o];rintro e w4 ⟨rfl,hb4⟩;unfold Pq DC;have X4:=hid (X3.o.trans (hb4.mono hs3));have M4:=hid (M3.o.below DJ.fair hb4);clear hb4 C3 M3;have hs4:=X4.o.size
   obtain⟨cs,hown,pX⟩:=(M4.o.alloc DJ.fair (.cells #[.int .u64 (s1:Int),.int .i64 (t.1:Int),.int .i64 (t.2.1:Int),.int .i64 (t.2.2:Int)] 248));have HO:Hid ((w4.alloc (.cells #[.int .u64 (s1:Int),.int .i64 (t.1:Int),.int .i64 (t.2.1:Int),.int .i64 (t.2.2:Int)] 248)).ownsRow w0.heap.size 248 4 u i cs):=by have h:=hown;rw[hmn]at h;exact h
   have Wx:=hid pX;clear hown pX;go_wp2_with(at_builtin;go_must(refine wpList_append_own_at _ rfl _ _ 172 rfl w0.heap.size 248 iT (.agg #[.int .u64 0,.int .i64 0,.int .i64 0,.int .i64 0]) 4 32 Tryz.underlying172 HI.o.1 HI.o.2.1 HI.o.2.2.1 HI.o.2.2.2 rfl oo u i cs rfl HO.o ⟨w4.heap.size,0,none⟩ 1 1 [.int .u64 (s1:Int),.int .i64 (t.1:Int),.int .i64 (t.2.1:Int),.int .i64 (t.2.2:Int)] rfl rfl (Vu _ _ _ _ _ _) (by simp[Value.oneCell']) Ao oo Al ?_));intro v5 w5 hown5 hgr5 _ TV;have hlo:∀rr,u.ownBlock=some rr->w0.heap.size<=rr:=fun rr hr=>(HO.o.lt rr hr).1;have hb5:Below w0.heap.size w4 w5:=(As.alloc oo _).grown hgr5 Al hlo
   have yE:w5.ownsRow w0.heap.size 248 4 v5 (((l.take i).map (Ky F p f)).length+1) (cs++[.int .u64 (s1:Int),.int .i64 (t.1:Int),.int .i64 (t.2.1:Int),.int .i64 (t.2.2:Int)]):=by rw[hmn];exact hown5
   have M5:Hid (MG DJ 4 248 w0.heap.size w5 v5 ((l.take i).map (Ky F p f)++[(s1,t)])):=MG.snoc DJ.fair Wx.o (show DJ _ _ (s1,t) _ from rfl) yE hgr5 (by simpa using TV);have X5:=hid (X4.o.trans hb5);have HE:Hid (MG DJ 4 248 w0.heap.size w5 v5 ((l.take (i+1)).map (Ky F p f))/\Below w0.heap.size w0 w5):=by refine⟨?_,X5.o⟩;rw[HM.o];unfold Ky at *;rw[Az.o,Ht.o];exact M5.o
   clear hown5 yE hgr5 TV hb5 hlo M5 X5;go_wp2_with fail;go_roundg(go-1);case measure=>omega
   case rel=>exact⟨v5,i+1,rfl,by congr 1,oo,HE.o⟩
  .have h1:(l.length:Int)<=(i:Int):=oo;have HE:Hid (SG DJ 4 (oD w.heap.size wr) wr u (l.map (Ky F p f))):=by
    have h:=(HC.o.1.sl DJ.fair DJ.sized oo).keep DJ.fair (ajS (show w.heap.size<=w0.heap.size by omega)) fun _ _=>rfl;rw[List.take_of_length_le (show l.length<=i by omega)]at h;exact h
   have BE:=hid (B0.o.trans (HC.o.2.mono oo));go_wp2_with fail;go_ret;exact⟨⟨_,rfl,HE.o⟩,BE.o⟩
def yJ(F:lI)(p:aI)(r:Rule)(i:Nat)(g:BY->Option jS):BY->Option jS:=
 match lM (depth r.head) r.head with
 |none=>g
 |some ss=>if r.at_.getD aA=aA then qg (ss.map (Ky F p (depth r.head))) (decls (r.body.getD [])) i g else g
theorem akl(F:lI)(B:Nat)(p:aI)(a:Option Addr)(cap:Nat)(wa:Option Addr)(wc:Nat)(bs:List Nat)(kb:Nat)(r:Rule)(ha:Option Addr)(hc:Nat)(ba:Option Addr)(bc:Nat)(bd:List Nd)(G:Nat->BY->Option jS)(w:WD)
  (h:aa7 B w p a cap wa wc bs) (hG:mF B w bs G) (hh:Sl (fun b=>b<B) w (.slice ha r.head.length hc) r.head) (hb:Sl (fun b=>b<B) w (.slice ba bd.length bc) bd) (fb:Bool) (hbd:r.at_.getD aA=aA->r.body=some bd)
  (hok:∀ss,lM (depth r.head) r.head=some ss->zL ss<=1000000) (hR:vK (depth r.head)) (hfit:pJ F w):
  Calls prog 62 #[.agg #[.slice a p.length cap,.slice wa bs.length wc,.map (some kb)],.agg #[.string (r.at_.getD aA),.slice ha r.head.length hc,.bool fb,.slice ba bd.length bc]] w
   fun ex w'=>ex=.returned (.tuple #[])/\mF B w' bs (fun i=>yJ F p r i (G i))/\dJ bs w w':=by
 have hBw:=h.pg.lt;have hlen:=h.pg.len;obtain⟨at_,Gx⟩:=Nm (r.at_.getD aA);obtain⟨hd,YG⟩:=Nm r.head;rw[Gx.o];rw[YG.o]at hh hok hR;have HRD:Hid (vK (depth hd)):=hR;have HFT:Hid (pJ F w):=hfit;clear hR hfit;rw[YG.o];have HLF:Hid (∀i,yJ F p r i (G i)=(match lM (depth hd) hd with|none=>G i|some ss=>if at_=aA then qg (ss.map (Ky F p (depth hd))) (decls bd) i (G i) else G i)):=by
  intro i;unfold yJ;rw[Gx.o,YG.o];cases lM (depth hd) hd with
  |none=>rfl
  |some ss=>
   by_cases e:at_=aA
   .simp only;rw[if_pos e,if_pos e,hbd (Gx.o.trans e)];rfl
   .simp only;rw[if_neg e,if_neg e]
 have hb0:Below w.heap.size w ((w.alloc (.cells #[.slice a p.length cap,.slice wa bs.length wc,.map (some kb)] 77)).alloc (.cells #[.string at_,.slice ha hd.length hc,.bool fb,.slice ba bd.length bc] 130)):=(As.alloc nl _).alloc Aa _;have B0:=hid hb0;have K0:Hid (K3 ((w.alloc (.cells #[.slice a p.length cap,.slice wa bs.length wc,.map (some kb)] 77)).alloc (.cells #[.string at_,.slice ha hd.length hc,.bool fb,.slice ba bd.length bc] 130)) w.heap.size (.slice a p.length cap) (.slice wa bs.length wc) (.map (some kb))):=(K3.new w _ _ _).below (As.alloc nl _);have R0:Hid (Q4 130 ((w.alloc (.cells #[.slice a p.length cap,.slice wa bs.length wc,.map (some kb)] 77)).alloc (.cells #[.string at_,.slice ha hd.length hc,.bool fb,.slice ba bd.length bc] 130)) (w.heap.size+1) (.string at_) (.slice ha hd.length hc) (.bool fb) (.slice ba bd.length bc)):=by have:=heap_alloc_new (w.alloc (.cells #[.slice a p.length cap,.slice wa bs.length wc,.map (some kb)] 77)) (.cells #[.string at_,.slice ha hd.length hc,.bool fb,.slice ba bd.length bc] 130);show _=_;simpa using this
 have HH:=hid (hh.below hb0 hBw);have VT:=hid hb;have HC:=hid h;have HG:Hid (mF B w bs G):=hG;have VJ:Hid (∀ss,lM (depth hd) hd=some ss->zL ss<=1000000):=hok;clear h hG hh hb hok hb0 hbd;go_in;go_upto_region 1 with fail
 generalize(w.alloc (.cells #[.slice a p.length cap,.slice wa bs.length wc,.map (some kb)] 77)).alloc (.cells #[.string at_,.slice ha hd.length hc,.bool fb,.slice ba bd.length bc] 130)=w0 at *;obtain⟨cb,Hcb⟩:=Nm w.heap.size;rw[Hcb.o]at K0 R0;rw[Hcb.o];obtain⟨k0,k1,k2⟩:=K0.o.cs;obtain⟨r0,r1,r2,r3⟩:=R0.o.cs;have hs0:=B0.o.size;go_wp2_with fail;refine(HRD.o B hd _ _ nl HH.o oo).mono ?_;rintro ex w1 ⟨hrd,hb1⟩;have B1:=hid (B0.o.trans (hb1.mono hs0));have K1:Hid (K3 w1 cb (.slice a p.length cap) (.slice wa bs.length wc) (.map (some kb))):=K0.o.below hb1;have R1:Hid (Q4 130 w1 (cb+1) (.string at_) (.slice ha hd.length hc) (.bool fb) (.slice ba bd.length bc)):=R0.o.below hb1;have hs1:=B1.o.size;clear hb1 k0 k1 k2 r0 r1 r2 r3 K0 R0 HH;obtain⟨k0,k1,k2⟩:=K1.o.cs;obtain⟨r0,r1,r2,r3⟩:=R1.o.cs;unfold rdP at hrd
 cases hsel:lM (depth hd) hd with
 |none=>
  rw[hsel]at hrd;have WJ:ex=_:=hrd;subst WJ;have HE:Hid (mF B w1 bs (fun i=>yJ F p r i (G i))):=by
   have:(fun i=>yJ F p r i (G i))=G:=funext fun i=>by rw[HLF.o i,hsel]
   rw[this];exact HG.o.below B1.o hBw
  have HT:Hid (dJ bs w w1):=dJ.of_below B1.o;clear hsel;go_wp2_with fail;refine bodyPost_ret (v:=.tuple #[]) (by simp[results,Tryz.results62,go_sem]) rfl ?_;exact⟨rfl,HE.o,HT.o⟩
 |some ss=>
  rw[hsel]at hrd;obtain⟨sv,rfl,hsv⟩:=hrd;have sS:=hid hsv;obtain⟨sa,sc,rfl⟩:=hsv.form;clear hsv;by_cases hat:at_=aA
  .have anC:(at_.toList==[])=true:=by rw[ay];exact decide_eq_true hat
   have al0:Hid (∀i,yJ F p r i (G i)=qg (ss.map (Ky F p (depth hd))) (decls bd) i (G i)):=fun i=>by rw[HLF.o i,hsel];exact if_pos hat
   have HOS:Hid (zL ss<=1000000):=VJ.o ss hsel;clear hsel HLF VJ hat;have hF:Hid (Fair (AA (aQ (depth hd)))):=One.fair (fO.fair (aQ.fair (depth hd)));have P1:=hid ((HC.o.pg.below B1.o hBw).mono oo nl);have SS1:Hid (SG (AA (aQ (depth hd))) 1 (fun b=>b<w1.heap.size) w1 (.slice sa ss.length sc) ss):=sS.o.keep hF.o (fun _ hg=>hg.2) fun _ _=>rfl;go_wp2_with fail;refine(abB F (depth hd) w1.heap.size ss _ p a cap w1 SS1.o P1.o (HFT.o.below B1.o) HOS.o).mono ?_;rintro ex w2 ⟨⟨cv,rfl,hcv⟩,hb2⟩;have B2:=hid (B1.o.trans (hb2.mono hs1));have K2:Hid (K3 w2 cb (.slice a p.length cap) (.slice wa bs.length wc) (.map (some kb))):=K1.o.below hb2;have R2:Hid (Q4 130 w2 (cb+1) (.string at_) (.slice ha hd.length hc) (.bool fb) (.slice ba bd.length bc)):=R1.o.below hb2;have hs2:=B2.o.size;have anD:=hb2.size
   have HCL:=hid hcv;obtain⟨ka,kc,rfl⟩:=hcv.form;have al1:=hid (VT.o.below B2.o hBw);clear hb2 hcv k0 k1 k2 r0 r1 r2 r3 K1 R1 SS1 P1 sS;obtain⟨k0,k1,k2⟩:=K2.o.cs;obtain⟨r0,r1,r2,r3⟩:=R2.o.cs;obtain⟨cl,Hcl⟩:=Nm (ss.map (Ky F p (depth hd)));have HSC:Hid (∀x∈cl,x.1<18446744073709551616):=by show ∀x∈cl,_;rw[<-Hcl.o];intro x hx;obtain⟨cx,_,rfl⟩:=List.mem_map.1 hx;exact PK p _ hlen.2 cx 0 Ab
   rw[Hcl.o]at HCL al0;rw[Hcl.o];go_wp2_with fail;refine(JW B bd _ w2 al1.o oo).mono ?_;rintro ex w3 ⟨dv,rfl,⟨xs,hxs,hdv,hdo⟩,hb3⟩;have B3:=hid (B2.o.trans (hb3.mono hs2));have K4:Hid (K3 w3 cb (.slice a p.length cap) (.slice wa bs.length wc) (.map (some kb))):=K2.o.below hb3;have hs3:=B3.o.size;have anE:=hb3.size;have HXS:Hid (xs.map Prod.fst=decls bd):=hxs;have HDV:=hid hdv;have HDO:Hid (∀x∈xs,ahc B w3 x):=hdo;have CL3:Hid (SG DJ 4 (oD w1.heap.size w2) w3 (.slice ka cl.length kc) cl):=HCL.o.keep DJ.fair (fun _ hg=>hg) fun g hg=>hb3.block g hg.2;have hxl:=hdv.len;obtain⟨da,dc,rfl⟩:=hdv.form;have G3:Hid (mF B w3 bs G):=HG.o.below B3.o hBw;clear hb3 hdv hdo hxs k0 k1 k2 r0 r1 r2 r3 K2 R2 HCL al1;obtain⟨k0,k1,k2⟩:=K4.o.cs;obtain⟨rb,ro,hwa,hwin⟩:=HC.o.win;have hnd:=HC.o.nd
   have hlo:=HC.o.lo;have hbl:=HC.o.len;have anc:=HC.o.cap;have al2:bs.length<=30:=oo;have al3:∀b∈bs,b<w.heap.size:=fun b hb=>by obtain⟨i,hi,rfl⟩:=List.getElem_of_mem hb;exact(HG.o i hi).lt
   have hrb:rb<w.heap.size:=cell_lt (hwin 0 oo);have hrn:rb ∉ bs:=fun hm=>by obtain⟨i,hi,e⟩:=List.getElem_of_mem hm;obtain⟨m,hm2,_⟩:=HG.o i hi;exact wC hm2 (hwin 0 oo) e.symm
   have am3:Hid (∀wx,dJ bs w3 wx->∀i (h:i<bs.length),wx.cell? ⟨rb,ro+i,none⟩=some (.map (some bs[i]))):=fun wx ht i hi=>by rw[World.cell?_of_block (w:=w) (a:=⟨rb,_,none⟩) ((ht.block rb oo hrn).trans (B3.o.block rb hrb))];exact hwin i hi
   have HNB:Hid (∀g,w1.heap.size<=g->g ∉ bs):=fun g hg hm=>by have:=al3 g hm;omega
   have HND:Hid (bs.Nodup):=hnd;have HLO:Hid (∀b∈bs,B<=b):=hlo;have hb1:1<=bs.length:=oo;clear hwin hnd hlo al3 HC hbl;subst hwa;have anF:(bs.length:Int)<=30:=oo;go_wp2_with fail;go_loopg[37] bs.length (fun gg v37 wr=>∃(k:Nat),v37=.int .i64 (k:Int)/\k+gg=bs.length/\Aside (mF B wr bs (fun i=>if i<k then qg cl (decls bd) i (G i) else G i)/\dJ bs w3 wr));case atStart=>exact⟨0,rfl,oo,by simpa using G3.o,dJ.refl _ _⟩
   case round=>
    obtain⟨go,hgo⟩:∃go,go=gk:=⟨_,rfl⟩;obtain⟨k,rfl,hk,hA⟩:=hrel;have HR:Hid (mF B wr bs (fun i=>if i<k then qg cl (decls bd) i (G i) else G i)/\dJ bs w3 wr):=hA.o;clear hA;have hsr:=HR.o.2.size;by_cases hlt:k<bs.length
    .have h1:(k:Int)<(bs.length:Int):=oo;have d0:=am3.o wr HR.o.2 k hlt;have C4':Hid (SG DJ 4 (fun b=>b<wr.heap.size) wr (.slice ka cl.length kc) cl):=CL3.o.keep DJ.fair (fun g hg=>by have:=hg.2;omega) fun g hg=>HR.o.2.block g (by have:=hg.2;omega) (HNB.o g hg.1);go_wp2_with fail;refine(XD wr.heap.size cl _ k wr C4'.o nl oo HSC.o).mono ?_;obtain⟨t,Ht⟩:=Nm ((NC k (0,0,0) false cl).1);obtain⟨ok,Hok⟩:=Nm ((NC k (0,0,0) false cl).2);rw[Ht.o,Hok.o];rintro ex w4 ⟨rfl,hb4⟩;unfold Pq DC;have A5:Hid (W3n (w4.alloc (.cells #[.int .i64 (t.1:Int),.int .i64 (t.2.1:Int),.int .i64 (t.2.2:Int)] 177)) w4.heap.size t):=W3.new _ _ _ _;have X5:Hid (Below wr.heap.size wr (w4.alloc (.cells #[.int .i64 (t.1:Int),.int .i64 (t.2.1:Int),.int .i64 (t.2.2:Int)] 177))):=hb4.alloc hb4.size _;have hs4:=hb4.size;clear hb4 d0
     go_upto_region 9 with fail
     generalize w4.alloc (.cells #[.int .i64 (t.1:Int),.int .i64 (t.2.1:Int),.int .i64 (t.2.2:Int)] 177)=w5 at *;obtain⟨tb,Htb⟩:=Nm w4.heap.size;rw[Htb.o]at A5 hs4;rw[Htb.o];have T5:=hid (HR.o.2.trans (dJ.of_below X5.o));have A5l:=W3.lt A5.o;have G5:Hid (mF B w5 bs (fun i=>if i<k then qg cl (decls bd) i (G i) else G i)):=HR.o.1.below X5.o oo;have hs5:=X5.o.size;cases ok
     .have HE:Hid (mF B w5 bs (fun i=>if i<k+1 then qg cl (decls bd) i (G i) else G i)):=by
       have e:(fun i=>if i<k+1 then qg cl (decls bd) i (G i) else G i)=(fun i=>if i<k then qg cl (decls bd) i (G i) else G i):=funext fun i=>by
        by_cases e1:i=k
        .subst e1;rw[if_pos oo,if_neg oo];unfold qg;rw[Hok.o];rfl
        .by_cases e2:i<k
         .rw[if_pos e2,if_pos oo]
         .rw[if_neg e2,if_neg oo]
       rw[e];exact G5.o
      go_wp2_with fail;go_roundg(go-1);case measure=>omega
      case rel=>exact⟨k+1,by congr 1,oo,HE.o,T5.o⟩
     .have hi6:(xs.length:Int)<=2097152:=oo;go_wp2_with fail;go_loopg[52] xs.length (fun gg v52 wr=>∃(j:Nat),v52=.int .i64 (j:Int)/\j+gg=xs.length/\Aside (mF B wr bs (fun i=>if i=k then((xs.map Prod.fst).take j).foldl (Py t) (G k) else if i<k then qg cl (decls bd) i (G i) else G i)/\dJ bs w5 wr));case atStart=>
       refine⟨0,rfl,oo,?_,dJ.refl _ _⟩;have e:(fun i=>if i=k then((xs.map Prod.fst).take 0).foldl (Py t) (G k) else if i<k then qg cl (decls bd) i (G i) else G i)=(fun i=>if i<k then qg cl (decls bd) i (G i) else G i):=funext fun i=>by
        by_cases e1:i=k
        .subst e1;rw[if_pos rfl,if_neg oo];rfl
        .rw[if_neg e1]
       rw[e];exact G5.o
      case round=>
       obtain⟨gi,hgi⟩:∃gi,gi=gk:=⟨_,rfl⟩;obtain⟨j,rfl,hj,hA⟩:=hrel;have HJ:Hid (mF B wr bs (fun i=>if i=k then((xs.map Prod.fst).take j).foldl (Py t) (G k) else if i<k then qg cl (decls bd) i (G i) else G i)/\dJ bs w5 wr):=hA.o;clear hA;have hsj:=HJ.o.2.size;by_cases hlj:j<xs.length
       .have h2:(j:Int)<(xs.length:Int):=oo;have HTJ:=hid (T5.o.trans HJ.o.2);have HBJ:=hid (HTJ.o.below HLO.o oo);obtain⟨g6,o6,e6,hL6,hcap6⟩:=(HDV.o.keep (S':=fun _=>True) CDv.fair (fun _ _=>trivial) fun g hg=>HTJ.o.block g hg.2 (HNB.o g (by have:=hg.1;omega))).here (by rintro rfl;simp at hlj);obtain⟨⟨d0,d1,d2⟩,_⟩:=hL6.dvq (i:=j) hlj;obtain⟨⟨va,vc,hx2⟩,al4,hxp⟩:=HDO.o xs[j] (List.getElem_mem hlj);have HF:Hid (((xs.map Prod.fst).take (j+1)).foldl (Py t) (G k)=Py t (((xs.map Prod.fst).take j).foldl (Py t) (G k)) xs[j].1):=by
         have:=Bj (Py t) (G k) (xs.map Prod.fst) (j:=j) (by rw[List.length_map];exact hlj);rw[List.getElem_map]at this;exact this
        generalize xs[j]=x at *;obtain⟨d,dval⟩:=x;have am4:dval=.slice va d.val.length vc:=hx2;subst am4;have HSX:Hid (Sl (fun b=>b<B) wr (.slice va d.val.length vc) d.val):=Sl.below al4 HBJ.o nl;have hdp:d.prop.size<=4000000:=hxp;have d0':wr.cell? ⟨g6,o6+j*3,none⟩=some (.string d.prop):=d0;have d1':wr.cell? ⟨g6,o6+j*3+1,none⟩=some (.slice va d.val.length vc):=d1;have d2':wr.cell? ⟨g6,o6+j*3+2,none⟩=some (.bool d.imp):=d2;have HF':Hid (((xs.map Prod.fst).take (j+1)).foldl (Py t) (G k)=zG (((xs.map Prod.fst).take j).foldl (Py t) (G k)) ⟨d.prop,d.val,d.imp,t⟩):=HF.o;clear hL6 hx2 al4 hxp HF d0 d1 d2;have A6:Hid (E3 (wr.alloc (.cells #[.string d.prop,.slice va d.val.length vc,.bool d.imp] 181)) wr.heap.size (.string d.prop) (.slice va d.val.length vc) (.bool d.imp)):=E3.new _ _ _ _
        have X6:Hid (Below wr.heap.size wr (wr.alloc (.cells #[.string d.prop,.slice va d.val.length vc,.bool d.imp] 181))):=As.alloc nl _;subst e6;go_upto_region 13 with fail
        generalize wr.alloc (.cells #[.string d.prop,.slice va d.val.length vc,.bool d.imp] 181)=w6 at *;obtain⟨db,Hdb⟩:=Nm wr.heap.size;rw[Hdb.o]at A6;rw[Hdb.o];have hs6:=X6.o.size;have T6:=hid (HJ.o.2.trans (dJ.of_below X6.o));have A7:Hid (W3n w6 tb t):=by show W3 _ _ _ _ _;unfold W3;rw[T6.o.block tb A5l (HNB.o tb (by have:=Htb.o;omega))];exact A5.o
        have G6:Hid (mF B w6 bs (fun i=>if i=k then((xs.map Prod.fst).take j).foldl (Py t) (G k) else if i<k then qg cl (decls bd) i (G i) else G i)):=HJ.o.1.below X6.o oo;have S6:Hid (Sl (fun b=>b<B) w6 (.slice va d.val.length vc) d.val):=Sl.below HSX.o X6.o oo;have W6:Hid (pG B w6 bs[k] (((xs.map Prod.fst).take j).foldl (Py t) (G k))):=by have h3:=G6.o k hlt;have h3':pG B w6 bs[k] (if k=k then((xs.map Prod.fst).take j).foldl (Py t) (G k) else if k<k then qg cl (decls bd) k (G k) else G k):=h3;rwa[if_pos rfl]at h3'
        clear d0' d1' d2';obtain⟨a0,a1,a2⟩:=A6.o.cs;obtain⟨t0,t1,t2⟩:=W3.cs A7.o;go_wp2_with fail;refine(ahb B _ bs[k] ⟨d.prop,d.val,d.imp,t⟩ va vc w6 W6.o (HLO.o _ (List.getElem_mem hlt)) S6.o hdp).mono ?_;rintro ex w7 ⟨rfl,aiD,ht7⟩;have T7:=hid (T6.o.trans (dJ.ahe ht7 (List.getElem_mem hlt)));have HE:Hid (mF B w7 bs (fun i=>if i=k then((xs.map Prod.fst).take (j+1)).foldl (Py t) (G k) else if i<k then qg cl (decls bd) i (G i) else G i)):=by
         have h3:=G6.o.upd hlt ht7 aiD HND.o HLO.o;have e:(fun i=>if i=k then((xs.map Prod.fst).take (j+1)).foldl (Py t) (G k) else if i<k then qg cl (decls bd) i (G i) else G i)=(fun i=>if i=k then zG (((xs.map Prod.fst).take j).foldl (Py t) (G k)) ⟨d.prop,d.val,d.imp,t⟩ else(if i=k then((xs.map Prod.fst).take j).foldl (Py t) (G k) else if i<k then qg cl (decls bd) i (G i) else G i)):=funext fun i=>by
          by_cases e1:i=k
          .rw[if_pos e1,if_pos e1,HF'.o]
          .rw[if_neg e1,if_neg e1,if_neg e1]
         rw[e];exact h3
        clear aiD ht7 a0 a1 a2 t0 t1 t2;go_wp2_with fail;go_roundg(gi-1);case measure=>omega
        case rel=>exact⟨j+1,by congr 1,oo,HE.o,T7.o⟩
       .have h2:(xs.length:Int)<=(j:Int):=oo;have HE:Hid (mF B wr bs (fun i=>if i<k+1 then qg cl (decls bd) i (G i) else G i)):=by
         have e:(fun i=>if i<k+1 then qg cl (decls bd) i (G i) else G i)=(fun i=>if i=k then((xs.map Prod.fst).take j).foldl (Py t) (G k) else if i<k then qg cl (decls bd) i (G i) else G i):=funext fun i=>by
          by_cases e1:i=k
          .subst e1;rw[if_pos oo,if_pos rfl];unfold qg;rw[if_pos Hok.o,Ht.o,List.take_of_length_le (by rw[List.length_map];omega),HXS.o]
          .rw[if_neg e1];by_cases e2:i<k
           .rw[if_pos e2,if_pos oo]
           .rw[if_neg e2,if_neg oo]
         rw[e];exact HJ.o.1
        have T8:=hid (T5.o.trans HJ.o.2);go_wp2_with fail;go_roundg(go-1);case measure=>omega
        case rel=>exact⟨k+1,by congr 1,oo,HE.o,T8.o⟩
    .have h1:(bs.length:Int)<=(k:Int):=oo;have HE:Hid (mF B wr bs (fun i=>yJ F p r i (G i))):=by
      intro i hi;have h3:=HR.o.1 i hi;have h3':pG B wr bs[i] (if i<k then qg cl (decls bd) i (G i) else G i):=h3;rw[if_pos oo]at h3';show pG B wr bs[i] (yJ F p r i (G i));rw[al0.o i];exact h3'
     have HT:Hid (dJ bs w wr):=(dJ.of_below B3.o).trans HR.o.2;go_wp2_with fail;go_end0
     exact⟨rfl,HE.o,HT.o⟩
  .have HE:Hid (mF B w1 bs (fun i=>yJ F p r i (G i))):=by
    have:(fun i=>yJ F p r i (G i))=G:=funext fun i=>by rw[HLF.o i,hsel];exact if_neg hat
    rw[this];exact HG.o.below B1.o hBw
   have HT:Hid (dJ bs w w1):=dJ.of_below B1.o;have hne:(at_.toList==[])=false:=by rw[ay];exact decide_eq_false hat
   clear hsel;go_wp2_with fail;refine bodyPost_ret (v:=.tuple #[]) (by simp[results,Tryz.results62,go_sem]) rfl ?_;exact⟨rfl,HE.o,HT.o⟩
def Gl(F:lI)(p:aI)(i:Nat)(g:BY->Option jS)(rs:List Rule):BY->Option jS:=rs.foldl (fun g r=>yJ F p r i g) g
def wZ(F:lI)(p:aI)(i:Nat)(g:BY->Option jS)(ss:List (List Rule)):BY->Option jS:=ss.foldl (Gl F p i) g
def okG(r:Rule):Prop:=(r.at_.getD aA=aA->∃bd,r.body=some bd)/\∀ss,lM (depth r.head) r.head=some ss->zL ss<=1000000
theorem akm(F:lI)(p:aI)(a:Option Addr)(cap:Nat)(sv:Av)(sh:List (List Rule))(w:WD)(hp:jZ w.heap.size w p a cap)(hs:SG (One dB 4) 1 (fun b=>b<w.heap.size) w sv sh)(hk:∀s∈sh,∀r∈s,okG r)(hR:∀f,vK f)(hfit:pJ F w):
  Calls prog 36 #[.agg #[.slice a p.length cap],sv] w fun ex w'=>(∃wa wc kb bs,ex=.returned (.agg #[.slice a p.length cap,.slice wa bs.length wc,.map (some kb)])/\aa7 w.heap.size w' p a cap wa wc bs/\mF w.heap.size w' bs (fun i=>wZ F p i (fun _=>none) sh)/\pY 133 w' kb (fun _=>none)/\w.heap.size<=kb/\kb ∉ bs)/\Below w.heap.size w w':=by
 have hmm:=@run_makeMap prog;have hlen:=hp.len;have hl:=hs.len;have HS:=hid hs;have HP:=hid hp;have HK:Hid (∀s∈sh,∀r∈s,okG r):=hk;have HRD:Hid (∀f,vK f):=hR;have HFT:Hid (pJ F w):=hfit;obtain⟨sa,sc,rfl⟩:=hs.form;clear hs hp hk hR hfit
 have I0:Hid (OfI w (.slice a p.length cap) (.slice none 0 0) [] ((((w.alloc (.cells #[.slice a p.length cap] 66)).alloc (.cells #[.slice none 0 0,.slice none 0 0,.map none] 77)).alloc (.map #[] 0)).alloc (.cells #[.slice a p.length cap,.slice none 0 0,.map (some (w.heap.size+1+1))] 77))/\bU ((((w.alloc (.cells #[.slice a p.length cap] 66)).alloc (.cells #[.slice none 0 0,.slice none 0 0,.map none] 77)).alloc (.map #[] 0)).alloc (.cells #[.slice a p.length cap,.slice none 0 0,.map (some (w.heap.size+1+1))] 77)) w.heap.size (.slice a p.length cap) 66):=aeh w _;obtain⟨iT,hiT⟩:=ahf;have HI:Hid (prog.info? 127=some iT/\iT.zero=some (.map none)/\iT.size=1/\iT.bytes=8):=hiT;clear hiT;go_in;go_upto_region 2 with fail
 generalize((((w.alloc (.cells #[.slice a p.length cap] 66)).alloc (.cells #[.slice none 0 0,.slice none 0 0,.map none] 77)).alloc (.map #[] 0)).alloc (.cells #[.slice a p.length cap,.slice none 0 0,.map (some (w.heap.size+1+1))] 77))=w0 at *;have c0:=I0.o.2.c;have J0:=hid I0.o.1;go_wp2_with fail;refine(ajT p.length a cap w0).mono ?_;rintro ex w1 ⟨rfl,hb1⟩;have J1:=hid (J0.o.next hb1);clear hb1 c0 I0 J0;have h30:(p.length:Int)<=30:=oo;go_wp2_with fail;go_loopg[15] p.length (fun gg v15 wr=>∃(u:Av) (bs:List Nat),v15=.int .i64 (bs.length:Int)/\bs.length+gg=p.length/\Aside (OfI w (.slice a p.length cap) u bs wr));case atStart=>exact⟨_,[],rfl,by simp,J1.o⟩
 case round=>
  obtain⟨go,hgo⟩:∃go,go=gk:=⟨_,rfl⟩;obtain⟨u,bs,rfl,hbl,hA⟩:=hrel;have HO:Hid (OfI w (.slice a p.length cap) u bs wr):=hA.o;clear hA;obtain⟨k0,k1,k2⟩:=HO.o.cas.cs;have hsz:=HO.o.size;by_cases hlt:bs.length<p.length
  .have h1:(bs.length:Int)<(p.length:Int):=oo;have z1:wr.frozen? ⟨w.heap.size+1+1+1,1,none⟩=false:=K3.fz HO.o.cas 1;have HRW:Hid (((wr.alloc (.map #[] 0)).alloc (.cells #[.map (some wr.heap.size)] 127)).ownsRow (w.heap.size+4) 127 1 u bs.length (bs.map mpV)):=(HO.o.row.alloc _).alloc _;go_wp2_with(at_builtin;go_must(refine wpList_append_own _ rfl _ _ 74 rfl (w.heap.size+4) 127 iT (.map none) 1 8 Tryz.underlying74 HI.o.1 HI.o.2.1 HI.o.2.2.1 HI.o.2.2.2 rfl oo u bs.length (bs.map mpV) rfl HRW.o ⟨(wr.alloc (.map #[] 0)).heap.size,0,none⟩ 1 1 [.map (some wr.heap.size)] (by simp[Act.eval]) rfl (cell_one_new _ _ _) (by simp[Value.oneCell']) Ao oo Al ?_));intro v4 w4 hown4 dS _;obtain⟨va4,vc4,rfl⟩:=kQ hown4;obtain⟨ua4,uc4,hu4⟩:=kQ HO.o.row
   have J4:Hid (OfI w (.slice a p.length cap) (.slice va4 (bs.length+1) vc4) (bs++[wr.heap.size]) (w4.setCell ⟨w.heap.size+1+1+1,1,none⟩ (.slice va4 (bs.length+1) vc4))):=HO.o.more rfl hown4 dS;have hc3:some (w.heap.size+1+1+1)≠u.ownBlock:=fun e=>by have:=(HO.o.row.lt _ e.symm).1;omega
   have K4:Hid (K3 w4 (w.heap.size+1+1+1) (.slice a p.length cap) u (.map (some (w.heap.size+1+1)))):=by show _=_;rw[dS.block _ (by simp;omega) hc3,Below.heap_alloc _ _ _ Al,Below.heap_alloc _ _ _ oo];exact HO.o.cas
   clear k0 k1 k2 z1 hown4 dS hc3;subst hu4;obtain⟨k0,k1,k2⟩:=K4.o.cs;have z1:=K3.fz K4.o 1;go_wp2_with fail;go_roundg(go-1);case measure=>omega
   case rel=>exact⟨_,bs++[wr.heap.size],by simp,by simp;omega,J4.o⟩
  .have h1:(p.length:Int)<=(bs.length:Int):=oo;have ajh:bs.length=p.length:=oo;obtain⟨rb,wc,hu⟩:∃rb wc,u=.slice (some ⟨rb,0,none⟩) bs.length wc/\bs.length<=wc/\(∀i (h:i<bs.length),wr.cell? ⟨rb,0+i,none⟩=some (.map (some bs[i]))):=ajV HO.o.row oo;obtain⟨rfl,hwc,hcells⟩:=hu;have HCM:Hid (aa7 w.heap.size wr p a cap (some ⟨rb,0,none⟩) wc bs):=⟨(HP.o.below HO.o.below nl),⟨rb,0,rfl,hcells⟩,ajh,hwc,HO.o.nd,fun b hb=>by have:=HO.o.lo b hb;omega⟩;have HG0:Hid (mF w.heap.size wr bs (fun _ _=>none)):=fun i hi=>pG.none (HO.o.maps _ (List.getElem_mem hi));have HS1:=hid (HS.o.below (One.fair dB.fair) HO.o.below nl);have FU:(sh.length:Int)<=2097152:=oo;have hrn:rb ∉ bs:=fun hm=>wC (HO.o.maps rb hm) (hcells 0 oo) rfl;have hrl:rb<wr.heap.size:=cell_lt (hcells 0 oo)
   have HCT:Hid (∀wx,dJ bs wr wx->aa7 w.heap.size wx p a cap (some ⟨rb,0,none⟩) wc bs):=fun wx ht=>⟨HP.o.below (HO.o.below.trans (ht.below HCM.o.lo HO.o.below.size)) nl,⟨rb,0,rfl,fun i hi=>by rw[World.cell?_of_block (w:=wr) (a:=⟨rb,_,none⟩) (ht.block rb hrl hrn)];exact hcells i hi⟩,HCM.o.len,HCM.o.cap,HCM.o.nd,HCM.o.lo⟩
   have HRB:Hid (w.heap.size+4<=rb/\∀b∈bs,w.heap.size+4<=b):=⟨(HO.o.row.lt rb rfl).1,HO.o.lo⟩;clear hcells ajh hrn hrl;have HN1:Hid (w.heap.size+1+1+1 ∉ bs/\w.heap.size+1+1 ∉ bs/\w.heap.size+1 ∉ bs):=⟨fun h=>by have:=HO.o.lo _ h;omega,fun h=>by have:=HO.o.lo _ h;omega,fun h=>by have:=HO.o.lo _ h;omega⟩;have sH:Hid (∀wx,dJ bs wr wx->K3 wx (w.heap.size+1+1+1) (.slice a p.length cap) (.slice (some ⟨rb,0,none⟩) bs.length wc) (.map (some (w.heap.size+1+1)))):=fun wx ht=>(show _=_ from(ht.block _ HO.o.cas.lt HN1.o.1).trans HO.o.cas);have HCR:Hid (∀wx,dJ bs wr wx->K3 wx (w.heap.size+1) (.slice none 0 0) (.slice none 0 0) (.map none)):=fun wx ht=>(show _=_ from(ht.block _ HO.o.res.lt HN1.o.2.2).trans HO.o.res)
   have HCN:Hid (∀wx,dJ bs wr wx->pY 133 wx (w.heap.size+1+1) (fun _=>none)):=fun wx ht=>HO.o.known.keep (ht.block _ HO.o.known.lt HN1.o.2.1);have HBL:Hid (∀wx,dJ bs wr wx->Below w.heap.size w wx):=fun wx ht=>HO.o.below.trans (ht.below HCM.o.lo HO.o.below.size);obtain⟨w1,hw1⟩:∃q,q=wr:=⟨_,rfl⟩;subst hw1;clear k0 k1 k2 HO hsz;go_wp2_with fail;go_loopg[26] sh.length (fun gg v26 wr=>∃(i:Nat),v26=.int .i64 (i:Int)/\i+gg=sh.length/\Aside (mF w.heap.size wr bs (fun e=>wZ F p e (fun _=>none) (sh.take i))/\dJ bs w1 wr));case atStart=>exact⟨0,rfl,oo,HG0.o,dJ.refl _ _⟩
   case round=>
    obtain⟨go,hgo⟩:∃go,go=gk:=⟨_,rfl⟩;obtain⟨wo,rfl⟩:∃q,q=wr:=⟨_,rfl⟩;obtain⟨i,rfl,hi,hA⟩:=hrel;have HR:Hid (mF w.heap.size wo bs (fun e=>wZ F p e (fun _=>none) (sh.take i))/\dJ bs w1 wo):=hA.o;clear hA;have BR:=hid (HBL.o wo HR.o.2);have hsr:=BR.o.size;by_cases hlt:i<sh.length
    .have h2:(i:Int)<(sh.length:Int):=oo;obtain⟨g,o,e1,hL,hcap⟩:=(HS.o.below (One.fair dB.fair) BR.o nl).here (by rintro rfl;simp at hlt);obtain⟨cv,d0,hcv,_⟩:=hL.shq (i:=i) hlt;have HKS:=hid (HK.o sh[i] (List.getElem_mem hlt));have HFS:Hid (∀e,wZ F p e (fun _=>none) (sh.take (i+1))=Gl F p e (wZ F p e (fun _=>none) (sh.take i)) sh[i]):=fun e=>Bj _ _ sh hlt;generalize sh[i]=rs at *;have HRS:=hid hcv;have hrl:=hcv.len;obtain⟨ra,rc,rfl⟩:=hcv.form;have hr6:(rs.length:Int)<=2097152:=oo;clear hcv hL;subst e1;go_wp2_with fail;go_loopg[32] rs.length (fun gg v32 wx=>∃(j:Nat),v32=.int .i64 (j:Int)/\j+gg=rs.length/\Aside (mF w.heap.size wx bs (fun e=>Gl F p e (wZ F p e (fun _=>none) (sh.take i)) (rs.take j))/\dJ bs wo wx));case atStart=>exact⟨0,rfl,oo,HR.o.1,dJ.refl _ _⟩
     case round=>
      obtain⟨gi,hgi⟩:∃gi,gi=gk:=⟨_,rfl⟩;obtain⟨j,rfl,hj,hA⟩:=hrel;have HJ:Hid (mF w.heap.size wr bs (fun e=>Gl F p e (wZ F p e (fun _=>none) (sh.take i)) (rs.take j))/\dJ bs wo wr):=hA.o;clear hA;have TJ:=hid (HR.o.2.trans HJ.o.2);have BJ:=hid (HBL.o wr TJ.o);have hsj:=BJ.o.size;by_cases hlj:j<rs.length
      .have h3:(j:Int)<(rs.length:Int):=oo;have BOJ:=hid (HJ.o.2.below HCM.o.lo hsr);obtain⟨g6,o6,e6,hL6,hcap6⟩:=(HRS.o.below dB.fair BOJ.o nl).here (by rintro rfl;simp at hlj);obtain⟨hv,bv,bl,⟨d0',d1,d2,d3⟩,hhv,hbv,hbb,_⟩:=hL6.rlq (i:=j) hlj;have HKR:=HKS.o rs[j] (List.getElem_mem hlj);have HFR:Hid (∀e,Gl F p e (wZ F p e (fun _=>none) (sh.take i)) (rs.take (j+1))=yJ F p rs[j] e (Gl F p e (wZ F p e (fun _=>none) (sh.take i)) (rs.take j))):=fun e=>Bj _ _ rs hlj;generalize rs[j]=r at *;have hok:=HKR.2;have hbd:r.at_.getD aA=aA->r.body=some bl:=fun e=>by
        obtain⟨bd,h⟩:=HKR.1 e;rw[h,hbb bd h]
       obtain⟨fb,Hfb⟩:=Nm r.body.isSome;rw[Hfb.o]at d2;have d2':wr.cell? ⟨g6,o6+j*4+2,none⟩=some (.bool fb):=d2;obtain⟨ha,hc,rfl⟩:=hhv.form;obtain⟨ba,bc,rfl⟩:=hbv.form;have HHV:=hid hhv;have HBV:=hid hbv;have VT:=hid hbd;have VJ:=hid hok;obtain⟨at_,Gx⟩:=Nm (r.at_.getD aA);rw[Gx.o]at d0';clear hL6 hhv hbv hbb hbd hok d2 HKR;have A6:Hid (Q4 130 (wr.alloc (.cells #[.string at_,.slice ha r.head.length hc,.bool fb,.slice ba bl.length bc] 130)) wr.heap.size (.string at_) (.slice ha r.head.length hc) (.bool fb) (.slice ba bl.length bc)):=Q4.new _ _ _ _ _ _;have X6:Hid (Below wr.heap.size wr (wr.alloc (.cells #[.string at_,.slice ha r.head.length hc,.bool fb,.slice ba bl.length bc] 130))):=As.alloc nl _;subst e6;go_upto_region 12 with fail
       generalize wr.alloc (.cells #[.string at_,.slice ha r.head.length hc,.bool fb,.slice ba bl.length bc] 130)=w6 at *;obtain⟨db,Hdb⟩:=Nm wr.heap.size;rw[Hdb.o]at A6;rw[Hdb.o];clear d0' d1 d2' d3;obtain⟨a0,a1,a2,a3⟩:=A6.o.cs;have T6:=hid (TJ.o.trans (dJ.of_below X6.o));have G6:=hid (HJ.o.1.below X6.o hsj);obtain⟨k0,k1,k2⟩:=(sH.o w6 T6.o).cs;have HL:=hid (akl F w.heap.size p a cap (some ⟨rb,0,none⟩) wc bs (w.heap.size+1+1) r ha hc ba bc bl _ w6 (HCT.o w6 T6.o) G6.o (Sl.below HHV.o X6.o hsj) (Sl.below HBV.o X6.o hsj) fb VT.o VJ.o (HRD.o _) (HFT.o.below (BJ.o.trans (X6.o.mono hsj))));rw[Gx.o]at HL;go_wp2_with fail;refine HL.o.mono ?_;rintro ex w7 ⟨rfl,hall7,ht7⟩;have T7:=hid (HJ.o.2.trans ((dJ.of_below X6.o).trans ht7))
       have HE:Hid (mF w.heap.size w7 bs (fun e=>Gl F p e (wZ F p e (fun _=>none) (sh.take i)) (rs.take (j+1)))):=by intro e he;show pG _ _ _ (Gl F p e (wZ F p e (fun _=>none) (sh.take i)) (rs.take (j+1)));rw[HFR.o e];exact hall7 e he
       clear hall7 ht7 a0 a1 a2 a3 k0 k1 k2 HL;go_wp2_with fail;go_roundg(gi-1);case measure=>omega
       case rel=>exact⟨j+1,by congr 1,oo,HE.o,T7.o⟩
      .have h3:(rs.length:Int)<=(j:Int):=oo;have HE:Hid (mF w.heap.size wr bs (fun e=>wZ F p e (fun _=>none) (sh.take (i+1)))):=by
        intro e he;have h4:pG _ _ _ (Gl F p e (wZ F p e (fun _=>none) (sh.take i)) (rs.take j)):=HJ.o.1 e he;rw[List.take_of_length_le (show rs.length<=j by omega),<-HFS.o e]at h4;exact h4
       go_wp2_with fail;go_roundg(go-1);case measure=>omega
       case rel=>exact⟨i+1,by congr 1,oo,HE.o,TJ.o⟩
    .have h2:(sh.length:Int)<=(i:Int):=oo;have HE:Hid (mF w.heap.size wo bs (fun e=>wZ F p e (fun _=>none) sh)):=by
      have h4:=HR.o.1;rw[List.take_of_length_le (show sh.length<=i by omega)]at h4;exact h4
     obtain⟨k0,k1,k2⟩:=(sH.o wo HR.o.2).cs;have HRS:=hid (HCR.o wo HR.o.2);obtain⟨r0,r1,r2⟩:=HRS.o.cs;have z0:=K3.fz HRS.o 0;have z1:=K3.fz HRS.o 1;have z2:=K3.fz HRS.o 2;go_wp2_with fail;have CW:=hid (HCT.o wo HR.o.2);have MW:=hid (HCN.o wo HR.o.2);clear k0 k1 k2 z0 z1 z2;refine bodyPost_ret (v:=.agg #[.slice a p.length cap,.slice (some ⟨rb,0,none⟩) bs.length wc,.map (some (w.heap.size+1+1))]) (by simp[results,Tryz.results36,go_sem,r0,r1,r2]) rfl ?_;have oth:∀k,k≠w.heap.size+1->(((wo.setCell ⟨w.heap.size+1,0,none⟩ (.slice a p.length cap)).setCell ⟨w.heap.size+1,1,none⟩ (.slice (some ⟨rb,0,none⟩) bs.length wc)).setCell ⟨w.heap.size+1,2,none⟩ (.map (some (w.heap.size+1+1)))).heap[k]?=wo.heap[k]?:=fun k hk=>by rw[Below.heap_setCell _ _ _ _ hk,Below.heap_setCell _ _ _ _ hk,Below.heap_setCell _ _ _ _ hk]
     have hbw:Below w.heap.size wo (((wo.setCell ⟨w.heap.size+1,0,none⟩ (.slice a p.length cap)).setCell ⟨w.heap.size+1,1,none⟩ (.slice (some ⟨rb,0,none⟩) bs.length wc)).setCell ⟨w.heap.size+1,2,none⟩ (.map (some (w.heap.size+1+1)))):=jR As oo _ _ _;refine⟨⟨_,_,_,bs,rfl,?_,?_,MW.o.keep (oth _ oo),oo,HN1.o.2.1⟩,BR.o.trans hbw⟩
     .obtain⟨rb',o',e',hcl⟩:=CW.o.win;cases e';exact⟨CW.o.pg.below hbw nl,⟨_,_,rfl,fun i hi=>by rw[World.cell?_of_block (w:=wo) (a:=⟨rb,_,none⟩) (oth rb (by have:=HRB.o.1;omega))];exact hcl i hi⟩,CW.o.len,CW.o.cap,CW.o.nd,CW.o.lo⟩
     .intro e he;exact(HE.o e he).keep hbw (oth _ (by have:=HRB.o.2 _ (List.getElem_mem he);omega))
end Go.Proofs.YtlliliddljkbfaaGreat
namespace Go.Proofs.YtlliliddljkbfaaGreat.Sp
theorem ES(s:BY):∀f i acc,(iK s f i acc).1.size+i<=acc.size+(iK s f i acc).2
 |0,i,acc=>by simp[iK]
 |f+1,i,acc=>by
  unfold iK;by_cases h1:lX (pk s i)=true
  .rw[if_pos h1];have:=ES s f (i+1) (acc++one s i);rw[ByteArray.size_append,iQ (dY (uV h1))]at this;omega
  .rw[if_neg h1];by_cases h2:kY s i=true
   .rw[if_pos h2];have:=ES s f (esc s i).2 (acc++(esc s i).1);have h3:=oL s i;rw[ByteArray.size_append,kN]at this;omega
   .rw[if_neg h2];simp
theorem DR(s:BY)(i:Nat):(name s i).1.size+i<=(name s i).2:=by have:=ES s s.size i ByteArray.empty;simp at this;exact this
theorem yK(s:BY)(q:Int):∀f i acc,(lK s q f i acc).1.word.size+i<=acc.size+(lK s q f i acc).2
 |0,i,acc=>by simp[lK,Tok.w]
 |f+1,i,acc=>by
  unfold lK;by_cases h0:s.size<=i
  .rw[if_pos h0];simp[Tok.w]
  rw[if_neg h0];by_cases h1:pk s i=q
  .rw[if_pos h1];simp[Tok.w]
  rw[if_neg h1];by_cases h2:pk s i=10
  .rw[if_pos h2];simp[Tok.k]
  rw[if_neg h2];by_cases h3:pk s i=92
  .rw[if_pos h3];by_cases h4:s.size<=i+1
   .rw[if_pos h4];have:=yK s q f (i+1) acc;omega
   rw[if_neg h4];by_cases h5:pk s (i+1)=10
   .rw[if_pos h5];have:=yK s q f (i+2) acc;omega
   rw[if_neg h5];have:=yK s q f (esc s i).2 (acc++(esc s i).1);have h6:=oL s i;rw[ByteArray.size_append,kN]at this;omega
  rw[if_neg h3];have:=yK s q f (i+1) (acc++one s i);rw[ByteArray.size_append,iQ oo]at this;omega
theorem ET(s:BY):∀f i acc,(jd s f i acc).1.word.size+i<=acc.size+(jd s f i acc).2
 |0,i,acc=>by simp[jd,Tok.w]
 |f+1,i,acc=>by
  unfold jd;have hb:=Ee s i;by_cases h0:s.size<=i
  .rw[if_pos h0];simp[Tok.w]
  rw[if_neg h0];by_cases h1:pk s i=41
  .rw[if_pos h1];simp[Tok.w]
  rw[if_neg h1];by_cases h2:aO (pk s i)=true
  .rw[if_pos h2];by_cases h3:s.size<=blk s i
   .rw[if_pos h3];simp[Tok.w];omega
   rw[if_neg h3];by_cases h4:pk s (blk s i)=41
   .rw[if_pos h4];simp[Tok.w];omega
   rw[if_neg h4];have:=Oq s (blk s i);simp[Tok.k];omega
  rw[if_neg h2];by_cases h3:kY s i=true
  .rw[if_pos h3];have:=ET s f (esc s i).2 (acc++(esc s i).1);have h6:=oL s i;rw[ByteArray.size_append,kN]at this;omega
  rw[if_neg h3];by_cases h4:Eb (pk s i)=true
  .rw[if_pos h4];have:=Oq s i;simp[Tok.k];omega
  rw[if_neg h4];have:=ET s f (i+1) (acc++one s i);rw[ByteArray.size_append,iQ oo]at this;omega
def Kz(t:Tok):Nat:=t.word.size+t.unit.size+if t.kind=11 then 1 else 0
theorem EU{n:Int}{x:BY}(h:n≠11):Kz (Tok.w n x)=x.size:=by unfold Kz;rw[if_neg (by simpa[Tok.w]using h)];simp[Tok.w]
theorem XR{n:Int}(h:n≠11):Kz (Tok.k n)=0:=by unfold Kz;rw[if_neg (by simpa[Tok.k]using h)];simp[Tok.k]
theorem NS{s:BY}{i:Nat}(hi:i<s.size):Kz (token s i).1+i<=(token s i).2:=by
 unfold token;split
 .rw[XR (by decide)];have:=Ee s i;omega
 split
 .have h1:=yK s (pk s i) s.size (i+1) ByteArray.empty;have h2:=lu s (pk s i) s.size (i+1) ByteArray.empty;unfold txt Kz;rw[if_neg (by rcases h2.1 with e|e<;>rw[e]<;>decide),h2.2];simp at h1⊢;omega
 split
 .rw[EU (by decide)];have:=DR s (i+1);show(name s (i+1)).1.size+i<=(name s (i+1)).2;omega
 split
 .rename_i hn;have h1:=yY hn;have h2:=yX (s:=s) (i:=i) oo;have hz:(s.extract i (bT s i)).size=bT s i-i:=by simp;omega
  unfold numeric;simp only;split
  .rw[EU (by decide),hz];show _<=bT s i+1;omega
  split
  .have:=DR s (bT s i);unfold Kz;show(s.extract i (bT s i)).size+(name s (bT s i)).1.size+(if (7:Int)=11 then 1 else 0)+i<=(name s (bT s i)).2;rw[hz,if_neg (by decide)];omega
  .rw[EU (by decide),hz];show _<=bT s i;omega
 split
 .rw[XR (by decide)];show _<=i+4;omega
 split
 .rw[XR (by decide)];show _<=i+3;omega
 split
 .rw[EU (by decide)];have:=DR s (i+1);show(name s (i+1)).1.size+i<=(name s (i+1)).2;omega
 split
 .have hn:=DR s i;unfold named;simp only;split
  .split
   .have hb:=Ee s ((name s i).2+1);have h1:=ET s s.size (blk s ((name s i).2+1)) ByteArray.empty;have h2:=mQ s s.size (blk s ((name s i).2+1)) ByteArray.empty;unfold link Kz;rw[if_neg (by rcases h2.1 with e|e<;>rw[e]<;>decide),h2.2];simp at h1⊢;omega
   .unfold Kz;rw[if_pos (by rfl)];show(name s i).1.size+0+1+i<=(name s i).2+1;omega
  .rw[EU (by decide)];exact hn
 .rw[EU (by decide),iQ hi];show _<=i+1;omega
def Vk(g:Tok->Nat):List Tok->Nat
 |[]=>0
 |t::r=>g t+Vk g r
theorem Zx{g:Tok->Nat}{K:Nat}{s:BY}(hg:∀i,i<s.size->g (token s i).1<=K*((token s i).2-i)):∀f i,i<=s.size->Vk g (tokF s f i)+K*i<=K*s.size
 |0,i,hi=>by simp only[tokF,Vk];rw[Nat.zero_add];exact Nat.mul_le_mul_left K hi
 |f+1,i,hi=>by
  unfold tokF;by_cases h0:s.size<=i
  .rw[if_pos h0];simp only[Vk];rw[Nat.zero_add];exact Nat.mul_le_mul_left K hi
  .rw[if_neg h0];have h1:=hg i oo;have h2:=xB (s:=s) (i:=i) oo;have h3:=xA (s:=s) (i:=i) oo;have h4:=Vq h2;have ih:=Zx hg f (com s (token s i).2) (Af h2);simp only[Vk];have h5:K*(token s i).2<=K*com s (token s i).2:=Nat.mul_le_mul_left K h4;have h6:K*((token s i).2-i)+K*i=K*(token s i).2:=by rw[<-Nat.mul_add];congr 1;omega
   omega
theorem UC{g:Tok->Nat}{K:Nat}{s:BY}(hg:∀i,i<s.size->g (token s i).1<=K*((token s i).2-i)):Vk g (toks s)<=K*s.size:=by have:=Zx hg s.size (com s 0) (Af (Nat.zero_le _));unfold toks;omega
mutual
def muN(g:Tok->Nat):Nd->Nat
 |.mk t k=>g t+Ac g k
def Ac(g:Tok->Nat):List Nd->Nat
 |[]=>0
 |n::r=>muN g n+Ac g r
end
theorem KA(g:Tok->Nat)(n:Nd):muN g n=g n.t+Ac g n.kids:=by cases n;simp[muN]
theorem yL(g:Tok->Nat)(n:Nd)(r:List Nd):Ac g (n::r)=muN g n+Ac g r:=by simp[Ac]
theorem PS(g:Tok->Nat){a b:List Nd}(h:a.Sublist b):Ac g a<=Ac g b:=by
 induction h with
 |slnil=>exact Nat.le_refl _
 |cons x _ ih=>rw[yL];omega
 |cons_cons x _ ih=>rw[yL,yL];omega
theorem PU(g:Tok->Nat):∀(l:List Nd) (n:Nd),n∈l->muN g n<=Ac g l
 |m::r,n,h=>by
  rw[yL];rcases List.mem_cons.1 h with rfl|h
  .omega
  .have:=PU g r n h;omega
theorem Zy(g:Tok->Nat)(n:Nat):∀(e:BY) (ts:List Tok),ts.length<=n->Ac g (kids e ts).1+Vk g (kids e ts).2<=Vk g ts:=by
 induction n with
 |zero=>intro e ts h;obtain rfl:ts=[]:=List.eq_nil_of_length_eq_zero oo;simp[jB,Ac,Vk]
 |succ n ih=>
  intro e ts h;cases ts with
  |nil=>simp[jB,Ac,Vk]
  |cons t r=>
   simp only[List.length_cons]at h;by_cases hc:e≠aA/\au t e=true
   .rw[qX hc];simp only[Ac,Vk];omega
   .rw[iy hc];have hl:=qW t r;have h1:Ac g (inside t r).1+Vk g (inside t r).2<=Vk g r:=by
     unfold inside;split
     .simp[Ac]
     .exact ih _ r oo
    have h2:=ih e (inside t r).2 oo;simp only[Ac,muN,Vk];omega
theorem ku:∀(l:List Nd),(aH l).Sublist l
 |[]=>by simp[aH]
 |n::r=>by
  unfold aH;split
  .exact(ku r).cons n
  .exact List.Sublist.refl _
theorem qP(l:List Nd):(bare l).Sublist l:=by unfold bare lJ;have h:=(ku (aH l).reverse).reverse;rw[List.reverse_reverse]at h;exact h.trans (ku l)
theorem qQ(stop:Nd->Bool):∀(l:List Nd),(bG stop l).1.Sublist l/\(bG stop l).2.2.Sublist l
 |[]=>by simp[bG]
 |n::r=>by
  unfold bG;split
  .exact⟨List.nil_sublist _,(List.Sublist.refl r).cons n⟩
  .have ih:=qQ stop r;exact⟨ih.1.cons_cons n,ih.2.cons n⟩
theorem UD(v:List Nd):(gW v).1.Sublist v:=by
 unfold gW;split
 .exact List.Sublist.refl _
 .split
  .split
   .exact List.Sublist.refl _
   .split
    .exact(qP _).trans ((List.dropLast_sublist _).trans ((qP _).trans (List.dropLast_sublist _)))
    .exact List.Sublist.refl _
  .exact List.Sublist.refl _
theorem UE{l:List Nd}{d:Dec}(h:iI l=some d):d.val.Sublist l:=by
 unfold iI at h;split at h
 .cases h
 .rename_i n r;split at h
  .cases h
  .split at h
   .cases h
   .rename_i c q hq;split at h
    .cases h;have h1:(c::q).Sublist r:=by rw[<-hq];exact qP r
     exact((UD _).trans ((qP q).trans (((List.Sublist.refl q).cons c).trans h1))).cons n
    .cases h
theorem sV:∀(f:Nat) (l:List Nd),∀d∈fF f l,d.val.Sublist l
 |0,l=>by simp[fF]
 |f+1,[]=>by simp[fF]
 |f+1,n::r=>by
  unfold fF;split
  .exact fun d hd=>(sV f r d hd).cons n
  split
  .exact fun d hd=>((sV f _ d hd).trans (qQ _ r).2).cons n
  .have h2:∀d∈fF f (bG aS (n::r)).2.2,d.val.Sublist (n::r):=fun d hd=>(sV f _ d hd).trans (qQ _ _).2;simp only;split
   .exact h2
   .rename_i d0 hd0;intro d hd;rcases List.mem_cons.1 hd with rfl|hd
    .exact(UE hd0).trans (qQ _ _).1
    .exact h2 d hd
theorem KC(l:List Nd):∀d∈decls l,d.val.Sublist l:=sV _ l
theorem UF(g:Tok->Nat){K:Nat}{s:BY}(hg:∀i,i<(clean s).size->g (token (clean s) i).1<=K*((token (clean s) i).2-i)){r:Rule}(hr:r∈rules true (bH s)){b:List Nd}(hb:r.body=some b){d:Dec}(hd:d∈decls b):Ac g d.val<=K*(clean s).size:=by
 obtain⟨n,h1,_,rfl⟩:=((pO true (bH s)).2 r hr).body b hb;have h2:=PS g (KC _ d hd);have h3:=PU g _ n h1;rw[KA]at h3;have h4:=Zy g _ aA (toks (clean s)) nl;have h5:=UC hg;have h6:Ac g (bH s)<=Vk g (toks (clean s)):=by unfold bH nodes;omega
 omega
section
def ig(n:Nd):Bool:=dN n (b1 44)
def Gm(k:List Nd):Option (BY×Bool×List Nd):=
 match bare (bG ig k).1 with
 |[n]=>if n.t.kind=14/\custom n.t.word=true then some (n.t.word,(bG ig k).2.1.isSome,bare (bG ig k).2.2) else none
 |_=>none
theorem KD{k fb:List Nd}{w:BY}{hf:Bool}(h:Gm k=some (w,hf,fb)):fb.Sublist k/\∃n∈k,n.t.kind=14/\n.t.word=w/\custom w=true:=by
 unfold Gm at h;split at h
 .rename_i n hn;split at h
  .rename_i hk;cases h;refine⟨(qP _).trans (qQ _ _).2,n,?_,hk.1,rfl,hk.2⟩;have h1:n∈bare (bG ig k).1:=by rw[hn];simp
   exact(qQ _ _).1.subset ((qP _).subset h1)
  .cases h
 .cases h
def nmV(k:List Nd):List BY:=match Gm k with|some x=>[x.1]|none=>[]
mutual
def nmN:Nd->List BY
 |.mk t k=>(if kD t=true then nmV k else [])++lW k
def lW:List Nd->List BY
 |[]=>[]
 |n::r=>nmN n++lW r
end
theorem XT(n:Nd):nmN n=(if kD n.t=true then nmV n.kids else [])++lW n.kids:=by
 cases n with
 |mk t k=>
  conv=>lhs;unfold nmN
  rfl
theorem PV:lW []=[]:=by simp[lW]
theorem yM(n:Nd)(r:List Nd):lW (n::r)=nmN n++lW r:=by simp[lW]
theorem ahE(k:List Nd):(nmV k).length<=1:=by unfold nmV;split<;>simp
mutual
theorem ahF:∀(n:Nd),(nmN n).length<=Cc n
 |.mk t k=>by
  have h1:=DT k;have h2:=ahE k;unfold nmN Cc;rw[List.length_append];split
  .omega
  .simp;omega
theorem DT:∀(l:List Nd),(lW l).length<=dL l
 |[]=>by simp[lW]
 |n::r=>by have h1:=ahF n;have h2:=DT r;unfold lW dL;rw[List.length_append];omega
end
def wI(s:BY):Nd:=.mk (Tok.w (-1) s) []
def zJ(g:BY->BY):Nat->Nd->Option Nd
 |0,n=>some (.mk n.t [])
 |f+1,n=>
  if kD n.t=true then
   (match Gm n.kids with
    |none=>none
    |some (w,hf,fb)=>
     if g w≠aA then some (wI (g w))
     else if hf=true then(tC (zJ g f) fb).map (fun x=>wI (written x)) else none)
  else(tC (zJ g f) n.kids).map (fun k=>.mk n.t k)
theorem ae3(h:Nd->Option Nd):tC h []=some []:=rfl
theorem qR(h:Nd->Option Nd)(n:Nd)(r:List Nd):tC h (n::r)=match h n with|none=>none|some m=>(tC h r).map (fun x=>m::x):=rfl
theorem yN(h:Nd->Option Nd):∀(a b:List Nd),tC h (a++b)=match tC h a with|none=>none|some x=>(tC h b).map (fun y=>x++y)
 |[],b=>by rw[List.nil_append,ae3];cases tC h b<;>rfl
 |n::r,b=>by
  rw[List.cons_append,qR,qR];cases h n with
  |none=>rfl
  |some m=>
   simp only;rw[yN h r b];cases tC h r with
   |none=>rfl
   |some x=>simp only[Option.map_some];cases tC h b<;>rfl
theorem ae4{h:Nd->Option Nd}:∀ {a x:List Nd},tC h a=some x->x.length=a.length
 |[],x,e=>by cases e;rfl
 |n::r,x,e=>by
  rw[qR]at e;cases hn:h n with
  |none=>rw[hn]at e;cases e
  |some m=>
   rw[hn]at e;cases hr:tC h r with
   |none=>rw[hr]at e;cases e
   |some y=>rw[hr]at e;cases e;rw[List.length_cons,List.length_cons,ae4 hr]
inductive Way (nb:BY->List BY):BY->BY->Prop
 |one {a b:BY}:b∈nb a->Way nb a b
 |more {a b c:BY}:Way nb a b->c∈nb b->Way nb a c
section
variable (p:aI) (V:Nat->BY->Option (List Nd)) (lp:Nat->BY->Bool)
def yO(e:Nat)(q:BY):List BY:=match V e q with|none=>[]|some v=>lW v
def paV(rec:Nat->BY->BY)(e:Nat)(q:BY):BY:=if parentOf p e<0 then aA else rec (parentOf p e).toNat q
def dnV(rec:Nat->BY->BY)(e:Nat)(q:BY):BY:=if handed q=true then paV p rec e q else aA
def Bq(rec:Nat->BY->BY)(e:Nat)(q:BY):BY:=
 match V e q with
 |none=>dnV p rec e q
 |some v=>
  if (isWord v lN||jg zB v)=true then dnV p rec e q
  else if isWord v jU=true then paV p rec e q
  else if isWord v nInitial=true then aA
  else if jg kD v=false then written v
  else if (custom q&&lp e q)=true then aA
  else match tC (zJ (rec e) 9) v with
   |none=>dnV p rec e q
   |some l=>if 400<(written l).size then dnV p rec e q else written l
def wJ:Nat->Nat->BY->BY
 |0,_,_=>aA
 |n+1,e,q=>Bq p V lp (wJ n) e q
def Cv(e:Nat)(q t:BY):Prop:=∃n0,∀n,n0<=n->wJ p V lp n e q=t
def CvI(e:Int)(q t:BY):Prop:=if e<0 then t=aA else Cv p V lp e.toNat q t
def Ex(e f:Nat)(l:List Nd)(r:Option (List Nd)):Prop:=∃n0,∀n,n0<=n->tC (zJ (wJ p V lp n e) f) l=r
def En(e f:Nat)(m:Nd)(r:Option Nd):Prop:=∃n0,∀n,n0<=n->zJ (wJ p V lp n e) f m=r
end
section
variable {p:aI} {V:Nat->BY->Option (List Nd)} {lp:Nat->BY->Bool}
theorem Cv.uniq{e:Nat}{q t u:BY}(h:Cv p V lp e q t)(k:Cv p V lp e q u):t=u:=by obtain⟨a,ha⟩:=h;obtain⟨b,hb⟩:=k;rw[<-ha (a+b) oo,<-hb (a+b) oo]
theorem Cv.step{e:Nat}{q t:BY}(h:∃n0,∀n,n0<=n->Bq p V lp (wJ p V lp n) e q=t):Cv p V lp e q t:=by obtain⟨a,ha⟩:=h;refine⟨a+1,fun n hn=>?_⟩;obtain⟨m,rfl⟩:∃m,n=m+1:=⟨n-1,oo⟩;exact ha m oo
theorem Ex.nil(e f:Nat):Ex p V lp e f [] (some []):=⟨0,fun _ _=>rfl⟩
theorem Ex.stop{e f:Nat}{a b:List Nd}{m:Nd}{x:List Nd}(h:Ex p V lp e f a (some x))(k:En p V lp e f m none):Ex p V lp e f (a++m::b) none:=by obtain⟨i,hi⟩:=h;obtain⟨j,hj⟩:=k;refine⟨i+j,fun n hn=>?_⟩;rw[yN,hi n oo,qR,hj n oo];rfl
theorem Ex.snoc{e f:Nat}{a:List Nd}{m m':Nd}{x:List Nd}(h:Ex p V lp e f a (some x))(k:En p V lp e f m (some m')):Ex p V lp e f (a++[m]) (some (x++[m'])):=by obtain⟨i,hi⟩:=h;obtain⟨j,hj⟩:=k;refine⟨i+j,fun n hn=>?_⟩;rw[yN,hi n oo,qR,hj n oo];rfl
theorem En.plain{e f:Nat}{m:Nd}{k:List Nd}(hv:kD m.t=false)(h:Ex p V lp e f m.kids (some k)):En p V lp e (f+1) m (some (.mk m.t k)):=by obtain⟨i,hi⟩:=h;refine⟨i,fun n hn=>?_⟩;unfold zJ;rw[if_neg (by rw[hv];simp),hi n hn];rfl
theorem En.ae5{e f:Nat}{m:Nd}(hv:kD m.t=false)(h:Ex p V lp e f m.kids none):En p V lp e (f+1) m none:=by obtain⟨i,hi⟩:=h;refine⟨i,fun n hn=>?_⟩;unfold zJ;rw[if_neg (by rw[hv];simp),hi n hn];rfl
theorem En.leaf{e:Nat}{m:Nd}:En p V lp e 0 m (some (.mk m.t [])):=⟨0,fun _ _=>rfl⟩
theorem En.unread{e f:Nat}{m:Nd}(hv:kD m.t=true)(h:Gm m.kids=none):En p V lp e (f+1) m none:=by refine⟨0,fun n hn=>?_⟩;unfold zJ;rw[if_pos hv,h]
theorem En.text{e f:Nat}{m:Nd}{w t:BY}{hf:Bool}{fb:List Nd}(hv:kD m.t=true)(h:Gm m.kids=some (w,hf,fb))(hc:Cv p V lp e w t)(ht:t≠aA):En p V lp e (f+1) m (some (wI t)):=by obtain⟨i,hi⟩:=hc;refine⟨i,fun n hn=>?_⟩;unfold zJ;rw[if_pos hv,h];simp only;rw[hi n hn,if_pos ht]
theorem En.none{e f:Nat}{m:Nd}{w:BY}{fb:List Nd}(hv:kD m.t=true)(h:Gm m.kids=some (w,false,fb))(hc:Cv p V lp e w aA):En p V lp e (f+1) m none:=by obtain⟨i,hi⟩:=hc;refine⟨i,fun n hn=>?_⟩;unfold zJ;rw[if_pos hv,h];simp only;rw[hi n hn,if_neg (by simp),if_neg (by simp)]
theorem En.back{e f:Nat}{m:Nd}{w:BY}{fb:List Nd}{r:Option (List Nd)}(hv:kD m.t=true)(h:Gm m.kids=some (w,true,fb))(hc:Cv p V lp e w aA)(hb:Ex p V lp e f fb r):En p V lp e (f+1) m (r.map (fun x=>wI (written x))):=by obtain⟨i,hi⟩:=hc;obtain⟨j,hj⟩:=hb;refine⟨i+j,fun n hn=>?_⟩;unfold zJ;rw[if_pos hv,h];simp only;rw[hi n oo,if_neg (by simp),if_pos trivial,hj n oo]
end
def abC(t:Tok):Nat:=if t.kind = -1 then t.word.size else 4*t.word.size+4*t.unit.size+12
theorem Zz(t:Tok):abC t<=4*t.word.size+4*t.unit.size+12:=by unfold abC;split<;>omega
mutual
def yzN:Nd->Nat
 |.mk t k=>abC t+4+Vl k
def Vl:List Nd->Nat
 |[]=>0
 |n::r=>yzN n+Vl r
end
theorem ahG:Vl []=0:=by simp[Vl]
theorem ae6(n:Nd)(r:List Nd):Vl (n::r)=yzN n+Vl r:=by simp[Vl]
theorem ae7{t:Tok}(h:t.kind = -1)(inn:BY):Qy t inn=t.word:=by unfold Qy;simp[h]
theorem ahH(a:Option Tok)(b:Tok):(Aj a b).size<=4:=by
 unfold Aj;split
 .show 0<=4;omega
 .split
  .show 4<=4;omega
  .show 0<=4;omega
mutual
theorem ahI:∀(n:Nd),(iM n).size+4<=yzN n
 |.mk t k=>by
  unfold iM yzN;have h1:=MK t (l9 none k);have h2:=PW none k;unfold abC;by_cases h:t.kind = -1
  .rw[if_pos h,ae7 h];omega
  .rw[if_neg h];omega
theorem PW:∀(a:Option Tok) (l:List Nd),(l9 a l).size<=Vl l
 |a,[]=>by unfold l9;show 0<=_;omega
 |a,n::r=>by
  unfold l9 Vl;have h1:=ahI n;have h2:=PW (some n.t) r;have h3:=ahH a n.t;rw[ByteArray.size_append];split
  .show 0+_<=_;omega
  .rw[ByteArray.size_append];omega
end
theorem NT(l:List Nd):(written l).size<=Vl l:=PW none l
def Gn(M:Nat)(t:Tok):Nat:=4*t.word.size+4*t.unit.size+16+if kD t=true then M else 0
theorem ahJ{M:Nat}{t:Tok}(h:kD t=true):M+16<=Gn M t:=by unfold Gn;rw[if_pos h];omega
theorem ae8(M:Nat)(t:Tok):4*t.word.size+4*t.unit.size+16<=Gn M t:=by unfold Gn;omega
theorem gY(n:Nd):Cc n=4*n.t.word.size+4*n.t.unit.size+16+dL n.kids:=by cases n;simp[Cc]
theorem XU(n:Nd):yzN n=abC n.t+4+Vl n.kids:=by cases n;simp[yzN]
theorem bW(n:Nd)(r:List Nd):dL (n::r)=Cc n+dL r:=by simp[dL]
theorem lG:dL []=0:=by simp[dL]
theorem ae9(s:BY):yzN (wI s)=s.size+4/\Cc (wI s)=4*s.size+16:=by rw[XU,gY];unfold wI abC;simp[Tok.w,Vl,dL]
theorem KE{h:Nd->Option Nd}{M:Nat}(hh:∀(n m:Nd),h n=some m->yzN m<=muN (Gn M) n/\Cc m<=4*muN (Gn M) n):∀(l x:List Nd),tC h l=some x->Vl x<=Ac (Gn M) l/\dL x<=4*Ac (Gn M) l
 |[],x,e=>by cases e;simp[Vl,dL]
 |n::r,x,e=>by
  rw[qR]at e;cases hn:h n with
  |none=>rw[hn]at e;cases e
  |some m=>
   rw[hn]at e;cases hr:tC h r with
   |none=>rw[hr]at e;cases e
   |some y=>rw[hr]at e;cases e;have h1:=hh n m hn;have h2:=KE hh r y hr;rw[ae6,bW,yL];omega
theorem UG{g:BY->BY}{M:Nat}(hg:∀w,(g w).size<=M):∀(f:Nat) (n m:Nd),zJ g f n=some m->yzN m<=muN (Gn M) n/\Cc m<=4*muN (Gn M) n
 |0,n,m,h=>by cases h;have:=ae8 M n.t;rw[KA,XU,gY];simp only[Nd.Qq,Nd.BK,ahG,lG];have:=Zz n.t;omega
 |f+1,n,m,h=>by
  have ih:=KE (UG hg f);unfold zJ at h;by_cases hv:kD n.t=true
  .rw[if_pos hv]at h;have hge:=ahJ (M:=M) hv;rw[KA];cases hr:Gm n.kids with
   |none=>rw[hr]at h;cases h
   |some x=>
    obtain⟨w,hf,fb⟩:=x;rw[hr]at h;simp only at h;have hs:=PS (Gn M) (KD hr).1;split at h
    .cases h;have:=ae9 (g w);have:=hg w;omega
    .split at h
     .cases hb:tC (zJ g f) fb with
      |none=>rw[hb]at h;cases h
      |some y=>rw[hb]at h;cases h;have h1:=ae9 (written y);have h2:=NT y;have h3:=ih fb y hb;show yzN (wI (written y))<=_/\Cc (wI (written y))<=_;omega
     .cases h
  .rw[if_neg hv]at h;rw[KA];cases hb:tC (zJ g f) n.kids with
   |none=>rw[hb]at h;cases h
   |some y=>rw[hb]at h;cases h;have h3:=ih n.kids y hb;have:=ae8 M n.t;rw[XU,gY];simp only[Nd.Qq,Nd.BK];have:=Zz n.t;omega
theorem abD{g:BY->BY}{M:Nat}(hg:∀w,(g w).size<=M){f:Nat}{l x:List Nd}(h:tC (zJ g f) l=some x):Vl x<=Ac (Gn M) l/\dL x<=4*Ac (Gn M) l:=KE (UG hg f) l x h
theorem EW{p:aI}{V:Nat->BY->Option (List Nd)}{lp:Nat->BY->Bool}{M:Nat}(hM:400<=M)(hV:∀e q v,V e q=some v->dL v<=M):∀(n e:Nat) (q:BY),(wJ p V lp n e q).size<=M
 |0,_,_=>by show 0<=M;omega
 |n+1,e,q=>by
  have ih:=EW (p:=p) (lp:=lp) hM hV n;have h0:aA.size<=M:=by show 0<=M;omega
  have hp:(paV p (wJ p V lp n) e q).size<=M:=by unfold paV;split;exact h0;exact ih _ _
  have hd:(dnV p (wJ p V lp n) e q).size<=M:=by unfold dnV;split;exact hp;exact h0
  show(Bq p V lp (wJ p V lp n) e q).size<=M;unfold Bq;cases hv:V e q with
  |none=>exact hd
  |some v=>
   simp only;have hw:=hV e q v hv;split
   .exact hd
   split
   .exact hp
   split
   .exact h0
   split
   .exact Nat.le_trans (vH none v) hw
   split
   .exact h0
   split
   .exact hd
   .split
    .exact hd
    .omega
theorem Cv.size{p:aI}{V:Nat->BY->Option (List Nd)}{lp:Nat->BY->Bool}{M:Nat}(hM:400<=M)(hV:∀e q v,V e q=some v->dL v<=M){e:Nat}{q t:BY}(h:Cv p V lp e q t):t.size<=M:=by obtain⟨n,hn⟩:=h;rw[<-hn n nl];exact EW hM hV n e q
theorem Ex.size{p:aI}{V:Nat->BY->Option (List Nd)}{lp:Nat->BY->Bool}{M:Nat}(hM:400<=M)(hV:∀e q v,V e q=some v->dL v<=M){e f:Nat}{l x:List Nd}(h:Ex p V lp e f l (some x)):Vl x<=Ac (Gn M) l/\dL x<=4*Ac (Gn M) l:=by obtain⟨n,hn⟩:=h;exact abD (fun w=>EW hM hV n e w) (hn n nl)
theorem ahK{M:Nat}{s:BY}{i:Nat}(hi:i<s.size)(hM:M<=12000):Gn M (token s i).1<=3020*((token s i).2-i):=by
 have h1:=NS hi;have h2:=xA hi;unfold Kz at h1;unfold Gn;by_cases hv:kD (token s i).1=true
 .rw[if_pos hv];unfold kD at hv;simp only[Bool.and_eq_true,decide_eq_true_eq]at hv;rw[if_pos hv.1]at h1;have h3:(token s i).1.word.size=3:=by
   have:=congrArg ByteArray.size hv.2;rw[jE]at this;exact this
  omega
 .rw[if_neg hv];omega
theorem afa{s:BY}{i:Nat}(hi:i<s.size):4*(token s i).1.word.size+4*(token s i).1.unit.size+16<=20*((token s i).2-i):=by have h1:=NS hi;have h2:=xA hi;unfold Kz at h1;omega
mutual
theorem akn:∀(n:Nd),Cc n=muN (fun t=>4*t.word.size+4*t.unit.size+16) n
 |.mk t k=>by unfold Cc muN;rw[PX k]
theorem PX:∀(l:List Nd),dL l=Ac (fun t=>4*t.word.size+4*t.unit.size+16) l
 |[]=>by unfold dL Ac;rfl
 |n::r=>by unfold dL Ac;rw[akn n,PX r]
end
theorem abE{s:BY}(hs:s.size<=600){r:Rule}(hr:r∈rules true (bH s)){b:List Nd}(hb:r.body=some b){d:Dec}(hd:d∈decls b):dL d.val<=12000/\Ac (Gn 12000) d.val<=1812000:=by have hc:=oZ s;have h1:=UF (fun t=>4*t.word.size+4*t.unit.size+16) (K:=20) (s:=s) (fun i hi=>afa hi) hr hb hd;have h2:=UF (Gn 12000) (K:=3020) (s:=s) (fun i hi=>ahK hi nl) hr hb hd;rw[PX];omega
theorem UH{s:BY}(hs:s.size<=600):dL (bH s)<=12000:=by have hc:=oZ s;have h1:Vk (fun t=>4*t.word.size+4*t.unit.size+16) (toks (clean s))<=20*(clean s).size:=UC fun i hi=>afa hi;have h2:=Zy (fun t=>4*t.word.size+4*t.unit.size+16) _ aA (toks (clean s)) nl;rw[PX];unfold bH nodes;omega
end
end Go.Proofs.YtlliliddljkbfaaGreat.Sp
namespace Go.Proofs.YtlliliddljkbfaaGreat
open Go.Proofs.Tryz (prog)
open Go.RowKit Sp
section
attribute [local go_sem] bI bJ aX aY
theorem ahL(t:Tok)(ka:Option Addr)(kl kc:Nat)(w:WD):
  Calls prog 98 #[fB t (.slice ka kl kc)] w fun e w'=>e=.returned (.bool (zB t))/\Below w.heap.size w w':=by
 unfold fB;have A2:Hid (VB (w.alloc (.cells #[.int .i64 t.kind,.string t.word,.string t.unit,.slice ka kl kc] 199)) w.heap.size (.int .i64 t.kind) (.string t.word) (.string t.unit) (.slice ka kl kc)):=VB.new _ _ _ _ _;have B2:Hid (Below w.heap.size w (w.alloc (.cells #[.int .i64 t.kind,.string t.word,.string t.unit,.slice ka kl kc] 199))):=As.alloc nl _;obtain⟨a0,a1,a2,a3⟩:=A2.o.cs;have HV:Hid (zB t=((t.kind==3)||(t.kind==13))):=by show _=_;unfold zB;rw[Bool.eq_iff_iff];simp
 rw[HV.o];cases e3:(t.kind==3)
 .cases e13:(t.kind==13)
  .go_in;go_wp2_with fail;go_ret;exact⟨rfl,B2.o⟩
  .go_in;go_wp2_with fail;go_ret;exact⟨rfl,B2.o⟩
 .go_in;go_wp2_with fail;go_ret;exact⟨rfl,B2.o⟩
theorem PY(t:Tok)(ka:Option Addr)(kl kc:Nat)(w:WD)(hw:t.word.size<=4000000):
  Calls prog 101 #[fB t (.slice ka kl kc)] w fun e w'=>e=.returned (.bool (kD t))/\Below w.heap.size w w':=by
 unfold fB;have A2:Hid (VB (w.alloc (.cells #[.int .i64 t.kind,.string t.word,.string t.unit,.slice ka kl kc] 199)) w.heap.size (.int .i64 t.kind) (.string t.word) (.string t.unit) (.slice ka kl kc)):=VB.new _ _ _ _ _;have B2:Hid (Below w.heap.size w (w.alloc (.cells #[.int .i64 t.kind,.string t.word,.string t.unit,.slice ka kl kc] 199))):=As.alloc nl _;obtain⟨a0,a1,a2,a3⟩:=A2.o.cs;cases e11:(t.kind==11)
 .have HV:Hid (kD t=false):=by show _=_;unfold kD;simp at e11;simp[e11]
  go_in;go_wp2_with fail;go_ret;exact⟨by rw[HV.o];rfl,B2.o⟩
 .have HV:Hid (kD t=((small t.word).toList==[118,97,114])):=by
   show _=_;rw[ay];unfold kD;simp at e11;simp[e11];rfl
  go_in;go_wp2_with fail;have hs2:=B2.o.size;refine pmb (nH t.word _ hw) fun w3 hb3=>?_;have B3:=hid (B2.o.trans (hb3.mono hs2));clear hb3;go_wp2_with fail;go_ret;exact⟨aC HV.o.symm,B3.o⟩
def NU(g:Nat)(G:Tok->Bool)(l:List Nd):Prop:=∀(B:Nat) (v:Av) (w:WD),Sl (fun b=>b<B) w v l->B<=w.heap.size ->
 Calls prog 97 #[v,.func (.func g) #[] #[]] w fun e w'=>e=.returned (.bool (jg G l))/\Below w.heap.size w w'
theorem ahM(G:Tok->Bool)(n:Nd):Qz G n=(G n.t||jg G n.kids):=by cases n;simp[Qz]
theorem abG(G:Tok->Bool){l:List Nd}{i:Nat}(h:i<l.length):jg G (l.drop i)=((G l[i].t||jg G l[i].kids)||jg G (l.drop (i+1))):=by rw[List.drop_eq_getElem_cons h,<-ahM];conv=>lhs;unfold jg
theorem afb(g:Nat)(G:Tok->Bool)(l:List Nd)(hg:∀(args:Array Av) (w:WD),(callFunc g args).run prog w=.ok (.enter g args) w)
  (hf:∀(t:Tok) (ka:Option Addr) (kl kc:Nat) (w:WD),t.word.size<=4000000->Calls prog g #[fB t (.slice ka kl kc)] w fun e w'=>e=.returned (.bool (G t))/\Below w.heap.size w w')
  (hrec:∀n∈l,NU g G n.kids):NU g G l:=by
 intro B v w h hB;have FU:=h.len;have HS:=hid h;have HF:Hid (∀(t:Tok) (ka:Option Addr) (kl kc:Nat) (w:WD),t.word.size<=4000000->Calls prog g #[fB t (.slice ka kl kc)] w fun e w'=>e=.returned (.bool (G t))/\Below w.heap.size w w'):=hf;have HRC:Hid (∀n∈l,NU g G n.kids):=hrec;obtain⟨a,cap,rfl⟩:=h.form;clear h hf hrec;obtain⟨R,HR⟩:=Nm (jg G l);rw[HR.o];go_in;go_wp2_with fail;go_loopg[9] l.length (fun gg v9 wr=>∃(i:Nat),v9=.int .i64 (i:Int)/\i+gg=l.length/\Aside (jg G (l.drop i)=R/\Below w.heap.size w wr));case atStart=>exact⟨0,rfl,oo,HR.o,As⟩
 case round=>
  obtain⟨i,rfl,hi,hA⟩:=hrel;have HA:Hid (jg G (l.drop i)=R):=hA.o.1;have HB:=hid hA.o.2;clear hA;have hsr:=HB.o.size;by_cases hlt:i<l.length
  .have h1:(i:Int)<(l.length:Int):=oo;obtain⟨g1,o,rfl,hL,hcap⟩:=(HS.o.below HB.o hB).here (by rintro rfl;simp at hlt);obtain⟨kv,hN⟩:=hL.node (i:=i) hlt;have HRN:=hid (HRC.o l[i] (List.getElem_mem hlt));have HD:=hid (abG G hlt);generalize l[i]=n at *;obtain⟨c0,c1,c2,c3⟩:_/\_/\_/\_:=⟨hN.c0,hN.c1,hN.c2,hN.c3⟩;have hw:=hN.ok.word;obtain⟨ka,kc,rfl⟩:=hN.k.form;have HK:=hid hN.k;clear hN hL;have A2:Hid (VB (wr.alloc (.cells #[.int .i64 n.t.kind,.string n.t.word,.string n.t.unit,.slice ka n.kids.length kc] 199)) wr.heap.size (.int .i64 n.t.kind) (.string n.t.word) (.string n.t.unit) (.slice ka n.kids.length kc)):=VB.new _ _ _ _ _;have X2:Hid (Below wr.heap.size wr (wr.alloc (.cells #[.int .i64 n.t.kind,.string n.t.word,.string n.t.unit,.slice ka n.kids.length kc] 199))):=As.alloc nl _;go_upto_region 4 with fail
   generalize wr.alloc (.cells #[.int .i64 n.t.kind,.string n.t.word,.string n.t.unit,.slice ka n.kids.length kc] 199)=w2 at *;obtain⟨nb,Gi⟩:=Nm wr.heap.size;have hs2:=X2.o.size;have B2:=hid (HB.o.trans (X2.o.mono hsr));rw[Gi.o]at A2;rw[Gi.o];clear c0 c1 c2 c3;obtain⟨a0,a1,a2,a3⟩:=A2.o.cs;have HC2:Hid (Calls prog g #[.agg #[.int .i64 n.t.kind,.string n.t.word,.string n.t.unit,.slice ka n.kids.length kc]] w2 fun e w'=>e=.returned (.bool (G n.t))/\Below w2.heap.size w2 w'):=HF.o n.t ka n.kids.length kc w2 hw;have HK2:=hid (HK.o.below X2.o oo);obtain⟨z,Hz⟩:=Nm (G n.t);rw[Hz.o]at HC2 HD;obtain⟨kn,Hkn⟩:=Nm n.kids.length;rw[Hkn.o]at HC2 a3 A2 HK2;go_wp2_with fail;refine HC2.o.mono ?_;rintro ex w3 ⟨rfl,hb3⟩
   have A3:Hid (VB w3 nb (.int .i64 n.t.kind) (.string n.t.word) (.string n.t.unit) (.slice ka kn kc)):=A2.o.below hb3;have B3:=hid (B2.o.trans (hb3.mono oo));have K3:=hid (HK2.o.below hb3 oo);have hs3:=B3.o.size;clear hb3 a0 a1 a2 a3;obtain⟨a0,a1,a2,a3⟩:=A3.o.cs;cases z
   .have sH:=hid (HRN.o B _ w3 K3.o oo);obtain⟨y,Hy⟩:=Nm (jg G n.kids);rw[Hy.o]at sH HD;go_wp2_with fail;refine sH.o.mono ?_;rintro ex w4 ⟨rfl,hb4⟩;have B4:=hid (B3.o.trans (hb4.mono hs3));clear hb4;cases y
    .have HE:Hid (jg G (l.drop (i+1))=R):=by
      show _=_;rw[<-HA.o,HD.o];rfl
     go_wp2_with fail;go_roundg(gk-1);case measure=>omega
     case rel=>exact⟨i+1,by congr 1,oo,HE.o,B4.o⟩
    .have HE:Hid (true=R):=by
      show _=_;rw[<-HA.o,HD.o];rfl
     go_wp2_with fail;go_ret;exact⟨by rw[<-HE.o];rfl,B4.o⟩
   .have HE:Hid (true=R):=by
     show _=_;rw[<-HA.o,HD.o];rfl
    go_wp2_with fail;go_ret;exact⟨by rw[<-HE.o];rfl,B3.o⟩
  .have h1:(l.length:Int)<=(i:Int):=oo;have HE:Hid (false=R):=by
    show _=_;rw[<-HA.o,List.drop_of_length_le (show l.length<=i by omega)];unfold jg;rfl
   go_wp2_with fail;go_ret;exact⟨by rw[<-HE.o];rfl,HB.o⟩
theorem afc(g:Nat)(G:Tok->Bool)(hg:∀(args:Array Av) (w:WD),(callFunc g args).run prog w=.ok (.enter g args) w)
  (hf:∀(t:Tok) (ka:Option Addr) (kl kc:Nat) (w:WD),t.word.size<=4000000->Calls prog g #[fB t (.slice ka kl kc)] w fun e w'=>e=.returned (.bool (G t))/\Below w.heap.size w w'):∀(k:Nat) (l:List Nd),dL l<=k->NU g G l:=by
 intro k;induction k with
 |zero=>intro l hl;refine afb g G l hg hf fun n hn=>?_;have h1:=nK l n hn;have h2:=Sp.gY n;omega
 |succ k ih=>intro l hl;refine afb g G l hg hf fun n hn=>ih _ ?_;have h1:=nK l n hn;have h2:=Sp.gY n;omega
theorem afd(l:List Nd):NU 98 zB l:=afc _ _ (fun _ _=>rfl) (fun t ka kl kc w _=>ahL t ka kl kc w) _ l nl
theorem afe(l:List Nd):NU 101 kD l:=afc _ _ (fun _ _=>rfl) (fun t ka kl kc w h=>PY t ka kl kc w h) _ l nl
end
section
attribute [local go_sem] bI bJ aX aY
theorem al5(n:Nd):jY [⟨#[44]⟩] n=ig n:=by
 unfold jY ig dN au b1;rw[y9];cases decide (n.t.kind=15)
 .rfl
 .by_cases h2:n.t.word=⟨#[44]⟩<;>simp[h2]
theorem Rh.com{B:Nat}{w:WD}{l:List Nd}{v1 sv v2:Av}(h:Rh B w (bG ig l) v1 sv v2):∃(t:Tok) (ka:Option Addr) (kl kc:Nat),sv=fB t (.slice ka kl kc)/\au t (b1 44)=(bG ig l).2.1.isSome:=by
 have h3:=h.stop;cases hc:(bG ig l).2.1 with
 |none=>rw[hc]at h3;exact⟨_,none,0,0,h3,rfl⟩
 |some n=>rw[hc]at h3;obtain⟨kv,rfl,hk,_⟩:=h3;obtain⟨ka,kc,rfl⟩:=hk.form;exact⟨n.t,ka,_,kc,rfl,vP ig l n hc⟩
def U3(w:WD)(b:Nat)(x0 x1 x2:Av):Prop:=w.heap[b]?=some (.cells #[x0,x1,x2] 327 (0,0))
theorem U3.cs{w:WD}{b:Nat}{x0 x1 x2:Av}(h:U3 w b x0 x1 x2):w.cell? ⟨b,0,none⟩=some x0/\w.cell? ⟨b,1,none⟩=some x1/\w.cell? ⟨b,2,none⟩=some x2:=by have h':w.heap[b]?=_:=h;refine⟨?_,?_,?_⟩<;>(unfold World.cell?;rw[h'];rfl)
theorem U3.lt{w:WD}{b:Nat}{x0 x1 x2:Av}(h:U3 w b x0 x1 x2):b<w.heap.size:=(Ax h)
theorem U3.new(w:WD)(x0 x1 x2:Av):U3 (w.alloc (.cells #[x0,x1,x2] 327)) w.heap.size x0 x1 x2:=heap_alloc_new w _
theorem U3.below{w w':WD}{b:Nat}{x0 x1 x2:Av}(h:U3 w b x0 x1 x2)(hb:Below w.heap.size w w'):U3 w' b x0 x1 x2:=by show _=_;rw[hb.block _ h.lt];exact h
theorem U3.fz{w:WD}{b:Nat}{x0 x1 x2:Av}(h:U3 w b x0 x1 x2)(k:Nat):w.frozen? ⟨b,k,none⟩=false:=by have h':w.heap[b]?=_:=h;unfold World.frozen?;rw[h'];simp
def abH(nm:BY)(hf:Bool)(fv:Av):Av:=.agg #[.string nm,.bool hf,fv]
def rdR(B:Nat)(w:WD)(r:Option (BY×Bool×List Nd))(e:Ending):Prop:=
 match r with
 |none=>e=.returned (.tuple #[abH ⟨#[]⟩ false (.slice none 0 0),.bool false])
 |some (nm,hf,fb)=>∃fv,e=.returned (.tuple #[abH nm hf fv,.bool true])/\Sl (fun b=>b<B) w fv fb/\nm.size<=4000000
theorem ako{k:List Nd}(h:¬(bare (bG ig k).1).length=1):Gm k=none:=by
 unfold Gm;split
 .rename_i n hn;rw[hn]at h;exact absurd rfl h
 .rfl
theorem ZA{k:List Nd}{n:Nd}(h:bare (bG ig k).1=[n])(h2:¬(n.t.kind=14/\custom n.t.word=true)):Gm k=none:=by unfold Gm;rw[h];exact if_neg h2
theorem akp{k:List Nd}{n:Nd}(h:bare (bG ig k).1=[n])(h2:n.t.kind=14)(h3:custom n.t.word=true):Gm k=some (n.t.word,(bG ig k).2.1.isSome,bare (bG ig k).2.2):=by unfold Gm;rw[h];exact if_pos ⟨h2,h3⟩
theorem NV(B:Nat)(l:List Nd)(v:Av)(w:WD)(h:Sl (fun b=>b<B) w v l)(hB:B<=w.heap.size):
  Calls prog 282 #[v] w fun e w'=>rdR B w' (Gm l) e/\Below w.heap.size w w':=by
 have FU:=h.len;have HS:=hid h;obtain⟨a,cap,rfl⟩:=h.form;clear h;have B1:Hid (Below w.heap.size w ((w.alloc (.cells #[.string ⟨#[]⟩,.bool false,.slice none 0 0] 327)).alloc (.cells #[.string ⟨#[44]⟩] 9))):=(As.alloc nl _).alloc Aa _;have U1:Hid (U3 ((w.alloc (.cells #[.string ⟨#[]⟩,.bool false,.slice none 0 0] 327)).alloc (.cells #[.string ⟨#[44]⟩] 9)) w.heap.size (.string ⟨#[]⟩) (.bool false) (.slice none 0 0)):=(U3.new w _ _ _).below (As.alloc nl _);have IE:Hid (∀j,j<1->((w.alloc (.cells #[.string ⟨#[]⟩,.bool false,.slice none 0 0] 327)).alloc (.cells #[.string ⟨#[44]⟩] 9)).cell? ⟨w.heap.size+1,0+j,none⟩=some (.string ([(⟨#[44]⟩:BY)].getD j ByteArray.empty))):=by intro j hj;have hh:=heap_alloc_new (w.alloc (.cells #[.string ⟨#[]⟩,.bool false,.slice none 0 0] 327)) (.cells #[.string ⟨#[44]⟩] 9);rw[World.size_alloc]at hh;unfold World.cell?;rw[hh];obtain rfl:j=0:=oo;rfl
 have hlt1:w.heap.size+1<((w.alloc (.cells #[.string ⟨#[]⟩,.bool false,.slice none 0 0] 327)).alloc (.cells #[.string ⟨#[44]⟩] 9)).heap.size:=by simp
 obtain⟨c,Hc⟩:=Nm (bG ig l);have FB:Hid (jY [⟨#[44]⟩]=ig):=funext al5;go_in;go_wp2_with fail;generalize(w.alloc (.cells #[.string ⟨#[]⟩,.bool false,.slice none 0 0] 327)).alloc (.cells #[.string ⟨#[44]⟩] 9)=w1 at *;have hs1:=B1.o.size;refine(ail B l _ [⟨#[44]⟩] _ w1 (HS.o.below B1.o hB) oo Aa hlt1 IE.o).mono ?_;rw[FB.o];rintro e w2 ⟨v1,sv,v2,rfl,hcut,hb2⟩;obtain⟨t,ka,kl,kc,rfl,hcm⟩:=hcut.com;obtain⟨va,vc,rfl⟩:=hcut.ahead.form;obtain⟨ba,bc,rfl⟩:=hcut.behind.form;have X2:=hid (B1.o.trans (hb2.mono hs1));have U2:Hid (U3 w2 w.heap.size (.string ⟨#[]⟩) (.bool false) (.slice none 0 0)):=U1.o.below hb2;have HA:=hid hcut.ahead
 have HBH:=hid hcut.behind;have HCM:Hid (au t (b1 44)=(bG ig l).2.1.isSome):=hcm;have hs2:=X2.o.size;clear hcut hb2 hcm IE hlt1 B1 U1 FB;unfold fB;have A3:Hid (VB (w2.alloc (.cells #[.int .i64 t.kind,.string t.word,.string t.unit,.slice ka kl kc] 199)) w2.heap.size (.int .i64 t.kind) (.string t.word) (.string t.unit) (.slice ka kl kc)):=VB.new _ _ _ _ _;have X3:Hid (Below w2.heap.size w2 (w2.alloc (.cells #[.int .i64 t.kind,.string t.word,.string t.unit,.slice ka kl kc] 199))):=As.alloc nl _;go_upto_region 2 with fail
 generalize w2.alloc (.cells #[.int .i64 t.kind,.string t.word,.string t.unit,.slice ka kl kc] 199)=w3 at *;obtain⟨nb,Gi⟩:=Nm w2.heap.size;have B3:=hid (X2.o.trans (X3.o.mono hs2));have Vm:Hid (U3 w3 w.heap.size (.string ⟨#[]⟩) (.bool false) (.slice none 0 0)):=U2.o.below X3.o;have HA3:=hid (HA.o.below X3.o oo);have HB3:=hid (HBH.o.below X3.o oo);rw[Gi.o]at A3;rw[Gi.o];have hs3:=B3.o.size;have U2l:=U2.o.lt;clear X3 HA HBH U2;obtain⟨hd,YG⟩:=Nm ((bG ig l).1);obtain⟨bh,Hbh⟩:=Nm ((bG ig l).2.2);rw[YG.o]at HA3;rw[Hbh.o]at HB3;rw[YG.o,Hbh.o];go_wp2_with fail;refine(tu B hd _ w3 HA3.o).mono ?_;rintro e wq ⟨tv,rfl,htv,hwq⟩;rw[hwq];clear hwq;have HT:=hid htv;obtain⟨ta,tc,rfl⟩:=htv.form;have ht6:=htv.len;clear htv
 by_cases h1:(bare hd).length=1
 .obtain⟨n,hn⟩:∃n,bare hd=[n]:=List.length_eq_one_iff.1 h1;have HBR:Hid (bare (bG ig l).1=[n]):=by show _=_;rw[YG.o,hn]
  rw[hn]at HT;rw[hn];obtain⟨g,o,nv,cap',e',hN,hcap⟩:=HT.o.head;have e1:ta=some ⟨g,o,none⟩:=by cases e';rfl
  have ec:tc=cap':=by cases e';rfl
  subst e1 ec;obtain⟨c0,c1,c2,c3⟩:_/\_/\_/\_:=⟨hN.c0,hN.c1,hN.c2,hN.c3⟩;have hw:=hN.ok.word;have hgB:g<B:=hN.s;have hcp:1<=tc:=by simpa using hcap
  clear hN e' h1 hn;cases hk:(n.t.kind==14)
  .have HV:Hid (Gm l=none):=ZA HBR.o (by simp at hk;simp[hk]);have hk2:(n.t.kind != 14)=true:=by rw[bne,hk];rfl
   obtain⟨r0,r1,r2⟩:=Vm.o.cs;have f0:=Vm.o.fz 0;have f1:=Vm.o.fz 1;have f2:=Vm.o.fz 2;go_wp2_with fail;refine bodyPost_ret (v:=.tuple #[.agg #[.string ⟨#[]⟩,.bool false,.slice none 0 0],.bool false]) (by simp[results,Tryz.results282,go_sem,r0,r1,r2]) rfl ?_;exact⟨by rw[HV.o];exact rfl,jR B3.o nl _ _ _⟩
  .have hk2:(n.t.kind != 14)=false:=by rw[bne,hk];rfl
   have FX:n.t.kind=14:=by simpa using hk
   have HK:=hid FX;clear FX;go_wp2_with fail;refine(rE n.t.word w3).mono ?_;obtain⟨z,Hz⟩:=Nm (custom n.t.word);rw[Hz.o];rintro ex wq ⟨rfl,hwq⟩;rw[hwq];clear hwq;cases z
   .have HV:Hid (Gm l=none):=ZA HBR.o (fun hh=>by rw[Hz.o]at hh;cases hh.2);obtain⟨r0,r1,r2⟩:=Vm.o.cs;have f0:=Vm.o.fz 0;have f1:=Vm.o.fz 1;have f2:=Vm.o.fz 2;go_wp2_with fail;refine bodyPost_ret (v:=.tuple #[.agg #[.string ⟨#[]⟩,.bool false,.slice none 0 0],.bool false]) (by simp[results,Tryz.results282,go_sem,r0,r1,r2]) rfl ?_;exact⟨by rw[HV.o];exact rfl,jR B3.o nl _ _ _⟩
   .have HV:Hid (Gm l=some (n.t.word,(bG ig l).2.1.isSome,bare bh)):=by
     show _=_;rw[akp HBR.o HK.o Hz.o,Hbh.o]
    rw[<-HCM.o]at HV;have hnb:nb<w3.heap.size:=A3.o.lt;have hRn:w.heap.size<nb:=by have:=Gi.o;have:=U2l;omega
    go_wp2_with fail;refine wp_region_any An ?_;change wpAny _ _ _ _ _ _ _ (World.drew _);have sS:Hid ((fun wx:WD=>wx.cell? ⟨g,o+1,none⟩=some (.string n.t.word)/\VB wx nb (.int .i64 t.kind) (.string t.word) (.string t.unit) (.slice ka kl kc)) w3.drew):=⟨c1,A3.o⟩;clear c0 c1 c2 c3;refine wpAny_of_held (S:=(fun wx:WD=>wx.cell? ⟨g,o+1,none⟩=some (.string n.t.word)/\VB wx nb (.int .i64 t.kind) (.string t.word) (.string t.unit) (.slice ka kl kc))) _ _ _ _ ?_;refine dH 0 rfl sS.o (by intro w hSw;obtain⟨s1,s2⟩:=hSw;obtain⟨a0,a1,a2,a3⟩:=VB.cs s2;exact gs) ?_;refine dH 1 rfl sS.o (by intro w hSw;obtain⟨s1,s2⟩:=hSw;obtain⟨a0,a1,a2,a3⟩:=VB.cs s2;exact gs) ?_
    refine dH 2 rfl sS.o (by intro w hSw;obtain⟨s1,s2⟩:=hSw;obtain⟨a0,a1,a2,a3⟩:=VB.cs s2;exact gs) ?_;refine dH 3 rfl sS.o (by intro w hSw;obtain⟨s1,s2⟩:=hSw;obtain⟨a0,a1,a2,a3⟩:=VB.cs s2;exact gs) ?_;refine dH 4 rfl sS.o (by intro w hSw;obtain⟨s1,s2⟩:=hSw;obtain⟨a0,a1,a2,a3⟩:=VB.cs s2;exact gs) ?_;refine dH 5 rfl sS.o (by intro w hSw;obtain⟨s1,s2⟩:=hSw;obtain⟨a0,a1,a2,a3⟩:=VB.cs s2;exact gs) ?_;refine dH 7 rfl sS.o (by intro w hSw;obtain⟨s1,s2⟩:=hSw;obtain⟨a0,a1,a2,a3⟩:=VB.cs s2;exact gs) ?_;refine iW 6 fun K hK=>?_;go_simp;refine(jf t (.slice ka kl kc) ⟨#[44]⟩ w3.drew).mono ?_;obtain⟨y,Hy⟩:=Nm (au t ⟨#[44]⟩);rw[Hy.o];rintro e w4 ⟨rfl,hb4⟩
    have X4:Hid (Below w3.heap.size w3 w4):=(As.drew).trans hb4;have HS4:Hid ((fun wx:WD=>wx.cell? ⟨g,o+1,none⟩=some (.string n.t.word)/\VB wx nb (.int .i64 t.kind) (.string t.word) (.string t.unit) (.slice ka kl kc)) w4):=⟨(X4.o.cell (p:=⟨g,o+1,none⟩) (by show g<w3.heap.size;omega)).trans sS.o.1,A3.o.below X4.o⟩;have HB4:=hid (HB3.o.below X4.o oo);clear hb4;refine hK.o _ _ HS4.o (fun _=>?_);clear hK K;refine iW 8 fun K hK=>?_;go_simp;refine(tu B bh _ w4 HB4.o).mono ?_;rintro e wq ⟨fv,rfl,hfv,hwq⟩;rw[hwq];clear hwq;have HFV:=hid hfv;obtain⟨fa,fc,rfl⟩:=hfv.form;clear hfv;obtain⟨fl,Hfl⟩:=Nm ((bare bh).length);rw[Hfl.o]at HFV;rw[Hfl.o];refine hK.o _ _ HS4.o (fun _=>?_);clear hK K;refine dH 9 rfl HS4.o (fun _ _=>gs) ?_;have U4:=hid (Vm.o.below X4.o)
    obtain⟨r0,r1,r2⟩:=U4.o.cs;have f0:=U4.o.fz 0;have f1:=U4.o.fz 1;have f2:=U4.o.fz 2;have B4:=hid (B3.o.trans (X4.o.mono hs3));refine iW 10 fun K hK=>?_;go_simp;have HS5:Hid ((fun wx:WD=>wx.cell? ⟨g,o+1,none⟩=some (.string n.t.word)/\VB wx nb (.int .i64 t.kind) (.string t.word) (.string t.unit) (.slice ka kl kc)) (((w4.setCell ⟨w.heap.size,0,none⟩ (.string n.t.word)).setCell ⟨w.heap.size,1,none⟩ (.bool y)).setCell ⟨w.heap.size,2,none⟩ (.slice fa fl fc))):=by
     refine⟨?_,?_⟩
     .rw[World.cell?_of_block (w:=w4) (a:=⟨g,o+1,none⟩) (by rw[Below.heap_setCell _ _ _ _ (by show g≠w.heap.size;omega),Below.heap_setCell _ _ _ _ (by show g≠w.heap.size;omega),Below.heap_setCell _ _ _ _ (by show g≠w.heap.size;omega)])];exact HS4.o.1
     .show _=_;rw[Below.heap_setCell _ _ _ _ (by show nb≠w.heap.size;omega),Below.heap_setCell _ _ _ _ (by show nb≠w.heap.size;omega),Below.heap_setCell _ _ _ _ (by show nb≠w.heap.size;omega)];exact HS4.o.2
    refine hK.o _ _ HS5.o (fun _=>?_);clear hK K;refine dH 11 rfl HS5.o (fun _ _=>gs) ?_;refine wpAnyH_done An ?_ _;have B5:Hid (Below w.heap.size w (((w4.setCell ⟨w.heap.size,0,none⟩ (.string n.t.word)).setCell ⟨w.heap.size,1,none⟩ (.bool y)).setCell ⟨w.heap.size,2,none⟩ (.slice fa fl fc))):=jR B4.o nl _ _ _;have HF5:Hid (Sl (fun b=>b<B) (((w4.setCell ⟨w.heap.size,0,none⟩ (.string n.t.word)).setCell ⟨w.heap.size,1,none⟩ (.bool y)).setCell ⟨w.heap.size,2,none⟩ (.slice fa fl fc)) (.slice fa fl fc) (bare bh)):=HFV.o.below (jR (Below.refl w.heap.size w4) nl _ _ _) hB;have HVY:Hid (Gm l=some (n.t.word,y,bare bh)):=by show _=_;rw[HV.o];show some (n.t.word,au t (b1 44),bare bh)=_;rw[show au t (b1 44)=y from Hy.o]
    go_wp2_with fail;refine bodyPost_ret (v:=.tuple #[.agg #[.string n.t.word,.bool y,.slice fa fl fc],.bool true]) (by simp[results,Tryz.results282,go_sem,r0,r1,r2]) rfl ?_;exact⟨by rw[HVY.o];exact⟨_,rfl,HF5.o,hw⟩,B5.o⟩
 .have HV:Hid (Gm l=none):=ako (by rw[YG.o];exact h1);have e1:(((bare hd).length:Int)==1)=false:=by
   rw[beq_eq_false_iff_ne];omega
  have e2:(((bare hd).length:Int) != 1)=true:=by rw[bne,e1];rfl
  obtain⟨r0,r1,r2⟩:=Vm.o.cs;have f0:=Vm.o.fz 0;have f1:=Vm.o.fz 1;have f2:=Vm.o.fz 2;go_wp2_with fail;refine bodyPost_ret (v:=.tuple #[.agg #[.string ⟨#[]⟩,.bool false,.slice none 0 0],.bool false]) (by simp[results,Tryz.results282,go_sem,r0,r1,r2]) rfl ?_;exact⟨by rw[HV.o];exact rfl,jR B3.o nl _ _ _⟩
end
section
attribute [local go_sem] bI bJ aX aY
theorem aff{w:WD}{base e s n:Nat}{v:Av}{xs:List Av}(h:w.ownsRow base e s v n xs){g:Nat}(hg:v.ownBlock=some g):∃cur,w.heap[g]?=some (.cells cur e (0,0)):=by
 rcases h.2 with⟨rfl,_⟩|⟨g',cap,cur,rfl,_,hh,_⟩
 .cases hg
 .cases hg;exact⟨cur,hh⟩
def dM(l:List BY):List Av:=l.map Value.string
theorem qU{w:WD}{base:Nat}{u:Av}{l:List BY}(h:w.ownsRow base 9 1 u l.length (dM l)):(u=.slice none 0 0/\l=[])\/∃g c,u=.slice (some ⟨g,0,none⟩) l.length c/\∀j x,(dM l)[j]?=some x->w.cell? ((⟨g,0,none⟩:Addr).add j)=some x:=by
 have hc:=fun g=>h.cells (g:=g);rcases h.2 with⟨rfl,hn⟩|⟨g,cap,cur,rfl,hrest⟩
 .exact .inl ⟨rfl,List.eq_nil_of_length_eq_zero hn⟩
 .exact .inr ⟨g,cap,rfl,hc g rfl⟩
def UJ(l:List Nd):Prop:=∀(B:Nat) (v:Av) (w:WD),Sl (fun b=>b<B) w v l->B<=w.heap.size->dL l<=1000000 ->
 Calls prog 232 #[v] w fun e w'=>(∃u,e=.returned u/\w'.ownsRow w.heap.size 9 1 u (lW l).length (dM (lW l)))/\Below w.heap.size w w'
theorem afg{l:List Nd}{i:Nat}(h:i<l.length):lW (l.drop i)=((if kD l[i].t=true then nmV l[i].kids else [])++lW l[i].kids)++lW (l.drop (i+1)):=by rw[List.drop_eq_getElem_cons h,yM,XT]
theorem yP{w w':WD}{base:Nat}{u:Av}{l:List BY}(h:w.ownsRow base 9 1 u l.length (dM l))(hb:Below w.heap.size w w'):w'.ownsRow base 9 1 u l.length (dM l):=aP h fun r hr=>hb.block r (h.lt r hr).2
theorem abI{l:List Nd}(h:dL l<=1000000):(lW l).length<=1000000:=Nat.le_trans (DT l) h
theorem UK(l:List Nd)(hrec:∀n∈l,UJ n.kids):UJ l:=by
 intro B v w h hB hz;have FU:=h.len;have HS:=hid h;have HRC:Hid (∀n∈l,UJ n.kids):=hrec;have hzn:=abI hz;obtain⟨a,cap,rfl⟩:=h.form;clear h hrec;obtain⟨iS,wK⟩:=info_str;have HI:Hid (prog.info? 9=some iS/\iS.zero=some (.string ⟨#[]⟩)/\iS.size=1/\iS.bytes=16):=wK;clear wK;obtain⟨R,HR⟩:=Nm (lW l);rw[HR.o]at hzn;rw[HR.o];go_in;go_wp2_with fail;go_loopg[3,10] l.length (fun gg v3 v10 wr=>∃(u:Av) (acc:List BY) (i:Nat),u=v3/\v10=.int .i64 (i:Int)/\i+gg=l.length/\Aside (wr.ownsRow w.heap.size 9 1 u acc.length (dM acc)/\acc++lW (l.drop i)=R/\Below w.heap.size w wr));case atStart=>exact⟨_,[],0,rfl,rfl,oo,World.ownsRow_nil _ _ _ _,HR.o,As⟩
 case round=>
  obtain⟨u,acc,i,rfl,rfl,hi,hA⟩:=hrel;have HO:Hid (wr.ownsRow w.heap.size 9 1 u acc.length (dM acc)):=hA.o.1;have HE0:Hid (acc++lW (l.drop i)=R):=hA.o.2.1;have HB:=hid hA.o.2.2;clear hA;have hsr:=HB.o.size;obtain⟨ua,uc,rfl⟩:=kQ HO.o;by_cases hlt:i<l.length
  .have h1:(i:Int)<(l.length:Int):=oo;obtain⟨g1,o,rfl,hL,hcap⟩:=(HS.o.below HB.o hB).here (by rintro rfl;simp at hlt);obtain⟨kv,hN⟩:=hL.node (i:=i) hlt;have HRN:=hid (HRC.o l[i] (List.getElem_mem hlt));have hzk:dL l[i].kids<=1000000:=by
    have q1:=nK l l[i] (List.getElem_mem hlt);have q2:=Sp.gY l[i];omega
   have HD0:=afg hlt;rw[HD0]at HE0;clear HD0;generalize l[i]=n at *;obtain⟨c0,c1,c2,c3⟩:_/\_/\_/\_:=⟨hN.c0,hN.c1,hN.c2,hN.c3⟩;have hw:=hN.ok.word;obtain⟨ka,kc,rfl⟩:=hN.k.form;have HK:=hid hN.k;clear hN hL;have A2:Hid (VB (wr.alloc (.cells #[.int .i64 n.t.kind,.string n.t.word,.string n.t.unit,.slice ka n.kids.length kc] 199)) wr.heap.size (.int .i64 n.t.kind) (.string n.t.word) (.string n.t.unit) (.slice ka n.kids.length kc)):=VB.new _ _ _ _ _;have X2:Hid (Below wr.heap.size wr (wr.alloc (.cells #[.int .i64 n.t.kind,.string n.t.word,.string n.t.unit,.slice ka n.kids.length kc] 199))):=As.alloc nl _;go_upto_region 5 with fail
   generalize wr.alloc (.cells #[.int .i64 n.t.kind,.string n.t.word,.string n.t.unit,.slice ka n.kids.length kc] 199)=w2 at *;obtain⟨nb,Gi⟩:=Nm wr.heap.size;have hs2:=X2.o.size;have B2:=hid (HB.o.trans (X2.o.mono hsr));have R2:=hid (yP HO.o X2.o);have K2:=hid (HK.o.below X2.o oo);rw[Gi.o]at A2;rw[Gi.o];clear c0 c1 c2 c3 HK HO X2;obtain⟨a0,a1,a2,a3⟩:=A2.o.cs;obtain⟨kn,Hkn⟩:=Nm n.kids.length;rw[Hkn.o]at a3 A2 K2;have wH:Hid (Calls prog 101 #[.agg #[.int .i64 n.t.kind,.string n.t.word,.string n.t.unit,.slice ka kn kc]] w2 fun e w'=>e=.returned (.bool (kD n.t))/\Below w2.heap.size w2 w'):=PY n.t ka kn kc w2 hw;obtain⟨z,Hz⟩:=Nm (kD n.t);rw[Hz.o]at wH HE0;go_wp2_with fail;refine wH.o.mono ?_;rintro ex w3 ⟨rfl,hb3⟩
   have A3:Hid (VB w3 nb (.int .i64 n.t.kind) (.string n.t.word) (.string n.t.unit) (.slice ka kn kc)):=A2.o.below hb3;have B3:=hid (B2.o.trans (hb3.mono oo));have R3:=hid (yP R2.o hb3);have K3:=hid (K2.o.below hb3 oo);have hs3:=B3.o.size;clear hb3 a0 a1 a2 a3 A2 R2 K2 wH;obtain⟨a0,a1,a2,a3⟩:=A3.o.cs;cases z
   .have HD:Hid (acc++(lW n.kids++lW (l.drop (i+1)))=R):=by
     have q:=HE0.o;simp only[Bool.false_eq_true,if_false,List.nil_append]at q;exact q
    have KX:=K3;have sH:=hid (HRN.o B _ w3 KX.o oo oo);go_wp2_with fail;refine sH.o.mono ?_;rintro ex w7 ⟨⟨u2,rfl,hrow2⟩,hb7⟩;have R7:Hid (w7.ownsRow w.heap.size 9 1 (.slice ua acc.length uc) acc.length (dM acc)):=aP R3.o fun r hr=>hb7.block r (R3.o.lt r hr).2;have B7:=hid (Ay B3.o hb7);have hs7:=B7.o.size;clear hb7 sH;rcases qU hrow2 with⟨rfl,hz2⟩|⟨g2,c2,rfl,hc2⟩
    .have HE:Hid (acc++lW (l.drop (i+1))=R):=by
      show _=_;rw[<-HD.o,hz2,List.nil_append]
     clear hrow2 hz2;go_wp2_with(at_builtin;go_must(refine wpList_append_own_none rfl _ _ 26 rfl w.heap.size 9 iS 1 Tryz.underlying26 HI.o.1 (.slice ua acc.length uc) acc.length (dM acc) rfl R7.o rfl ?_));go_wp2_with fail;go_roundg(gk-1);case measure=>omega
     case rel=>exact⟨_,_,i+1,rfl,by congr 1,oo,R7.o,HE.o,B7.o⟩
    .have HC2:=hid hc2;have HE:Hid ((acc++lW n.kids)++lW (l.drop (i+1))=R):=by
      show _=_;rw[<-HD.o,List.append_assoc]
     have hle:acc.length+(lW n.kids).length<=1000000:=by have q:=congrArg List.length HE.o;simp only[List.length_append]at q;omega
     clear hrow2 hc2;go_wp2_with(at_builtin;go_must(refine wpList_append_own_at _ rfl _ _ 26 rfl w.heap.size 9 iS (.string ⟨#[]⟩) 1 16 Tryz.underlying26 HI.o.1 HI.o.2.1 HI.o.2.2.1 HI.o.2.2.2 rfl oo (.slice ua acc.length uc) acc.length (dM acc) rfl R7.o ⟨g2,0,none⟩ (lW n.kids).length c2 (dM (lW n.kids)) rfl (by simp[dM]) HC2.o (by simp[dM,Value.oneCell']) Ao oo oo ?_));intro v8 w8 eP lD _ _;have hlo:∀rr,Value.ownBlock (.slice ua acc.length uc)=some rr->w.heap.size<=rr:=fun rr hr=>(R7.o.lt rr hr).1;have B8:=hid (B7.o.grown lD hs7 hlo);have R8:Hid (w8.ownsRow w.heap.size 9 1 v8 (acc++lW n.kids).length (dM (acc++lW n.kids))):=by have h:=eP;unfold dM at *;rw[List.length_append,List.map_append];exact h
     clear eP lD hlo;go_wp2_with fail;go_roundg(gk-1);case measure=>omega
     case rel=>exact⟨_,_,i+1,rfl,by congr 1,oo,R8.o,HE.o,B8.o⟩
   .have HCR:=hid (NV B n.kids _ w3 K3.o oo);go_wp2_with fail;refine HCR.o.mono ?_;rintro ex w4 ⟨hrd,hb4⟩;have A4:Hid (VB w4 nb (.int .i64 n.t.kind) (.string n.t.word) (.string n.t.unit) (.slice ka kn kc)):=A3.o.below hb4;have B4:=hid (B3.o.trans (hb4.mono hs3));have R4:=hid (yP R3.o hb4);have K4:=hid (K3.o.below hb4 oo);have hs4:=B4.o.size;clear hb4 a0 a1 a2 a3 A3 R3 K3 HCR;cases hr:Gm n.kids with
    |none=>
     rw[hr]at hrd;have WJ:ex=_:=hrd;subst WJ;unfold abH;have HD:Hid (acc++(lW n.kids++lW (l.drop (i+1)))=R):=by show _=_;have q:=HE0.o;unfold nmV at q;rw[hr]at q;simpa using q
     clear hr hrd;have X5:Hid (Below w4.heap.size w4 (w4.alloc (.cells #[.string ⟨#[]⟩,.bool false,.slice none 0 0] 327))):=As.alloc nl _;go_upto_region 7 with fail
     generalize w4.alloc (.cells #[.string ⟨#[]⟩,.bool false,.slice none 0 0] 327)=w5 at *;have A5:Hid (VB w5 nb (.int .i64 n.t.kind) (.string n.t.word) (.string n.t.unit) (.slice ka kn kc)):=A4.o.below X5.o;have B5:=hid (B4.o.trans (X5.o.mono hs4));have R5:=hid (yP R4.o X5.o);have KX:=hid (K4.o.below X5.o oo);have hs5:=B5.o.size;clear X5 A4 R4 K4;obtain⟨a0,a1,a2,a3⟩:=A5.o.cs;have sH:=hid (HRN.o B _ w5 KX.o oo oo);go_wp2_with fail;refine sH.o.mono ?_;rintro ex w7 ⟨⟨u2,rfl,hrow2⟩,hb7⟩;have R7:Hid (w7.ownsRow w.heap.size 9 1 (.slice ua acc.length uc) acc.length (dM acc)):=aP R5.o fun r hr=>hb7.block r (R5.o.lt r hr).2;have B7:=hid (Ay B5.o hb7);have hs7:=B7.o.size;clear hb7 sH;rcases qU hrow2 with⟨rfl,hz2⟩|⟨g2,c2,rfl,hc2⟩
     .have HE:Hid (acc++lW (l.drop (i+1))=R):=by
       show _=_;rw[<-HD.o,hz2,List.nil_append]
      clear hrow2 hz2;go_wp2_with(at_builtin;go_must(refine wpList_append_own_none rfl _ _ 26 rfl w.heap.size 9 iS 1 Tryz.underlying26 HI.o.1 (.slice ua acc.length uc) acc.length (dM acc) rfl R7.o rfl ?_));go_wp2_with fail;go_roundg(gk-1);case measure=>omega
      case rel=>exact⟨_,_,i+1,rfl,by congr 1,oo,R7.o,HE.o,B7.o⟩
     .have HC2:=hid hc2;have HE:Hid ((acc++lW n.kids)++lW (l.drop (i+1))=R):=by
       show _=_;rw[<-HD.o,List.append_assoc]
      have hle:acc.length+(lW n.kids).length<=1000000:=by have q:=congrArg List.length HE.o;simp only[List.length_append]at q;omega
      clear hrow2 hc2;go_wp2_with(at_builtin;go_must(refine wpList_append_own_at _ rfl _ _ 26 rfl w.heap.size 9 iS (.string ⟨#[]⟩) 1 16 Tryz.underlying26 HI.o.1 HI.o.2.1 HI.o.2.2.1 HI.o.2.2.2 rfl oo (.slice ua acc.length uc) acc.length (dM acc) rfl R7.o ⟨g2,0,none⟩ (lW n.kids).length c2 (dM (lW n.kids)) rfl (by simp[dM]) HC2.o (by simp[dM,Value.oneCell']) Ao oo oo ?_));intro v8 w8 eP lD _ _;have hlo:∀rr,Value.ownBlock (.slice ua acc.length uc)=some rr->w.heap.size<=rr:=fun rr hr=>(R7.o.lt rr hr).1;have B8:=hid (B7.o.grown lD hs7 hlo);have R8:Hid (w8.ownsRow w.heap.size 9 1 v8 (acc++lW n.kids).length (dM (acc++lW n.kids))):=by have h:=eP;unfold dM at *;rw[List.length_append,List.map_append];exact h
      clear eP lD hlo;go_wp2_with fail;go_roundg(gk-1);case measure=>omega
      case rel=>exact⟨_,_,i+1,rfl,by congr 1,oo,R8.o,HE.o,B8.o⟩
    |some x=>
     obtain⟨nm,hf,fb⟩:=x;rw[hr]at hrd;obtain⟨fv,rfl,hfv,hnm⟩:=hrd;obtain⟨fa,fc,rfl⟩:=hfv.form;unfold abH;have HD:Hid ((acc++[nm])++(lW n.kids++lW (l.drop (i+1)))=R):=by show _=_;have q:=HE0.o;unfold nmV at q;rw[hr]at q;simpa using q
     have hle:acc.length+1<=1000000:=by have q:=congrArg List.length HD.o;simp only[List.length_append,List.length_cons,List.length_nil]at q;omega
     clear hr hfv;generalize fb.length=fl at *;have X5:Hid (Below w4.heap.size w4 (w4.alloc (.cells #[.string nm,.bool hf,.slice fa fl fc] 327))):=As.alloc nl _;have U5:Hid (U3 (w4.alloc (.cells #[.string nm,.bool hf,.slice fa fl fc] 327)) w4.heap.size (.string nm) (.bool hf) (.slice fa fl fc)):=U3.new _ _ _ _;go_upto_region 7 with fail
     generalize w4.alloc (.cells #[.string nm,.bool hf,.slice fa fl fc] 327)=w5 at *;have A5:Hid (VB w5 nb (.int .i64 n.t.kind) (.string n.t.word) (.string n.t.unit) (.slice ka kn kc)):=A4.o.below X5.o;have B5:=hid (B4.o.trans (X5.o.mono hs4));have R5:=hid (yP R4.o X5.o);have K5:=hid (K4.o.below X5.o oo);have hs5:=B5.o.size;obtain⟨ub,Hub⟩:=Nm w4.heap.size;rw[Hub.o]at U5;rw[Hub.o];clear X5 A4 R4 K4;obtain⟨a0,a1,a2,a3⟩:=A5.o.cs;obtain⟨q0,q1,q2⟩:=U5.o.cs;have RA:Hid ((w5.alloc (.cells #[.string nm] 9)).ownsRow w.heap.size 9 1 (.slice ua acc.length uc) acc.length (dM acc)):=R5.o.alloc _
     go_wp2_with(at_builtin;go_must(refine wpList_append_own_at _ rfl _ _ 26 rfl w.heap.size 9 iS (.string ⟨#[]⟩) 1 16 Tryz.underlying26 HI.o.1 HI.o.2.1 HI.o.2.2.1 HI.o.2.2.2 rfl oo (.slice ua acc.length uc) acc.length (dM acc) rfl RA.o ⟨w5.heap.size,0,none⟩ 1 1 [.string nm] rfl rfl (nO _ _ _) (by simp[Value.oneCell']) Ao oo Al ?_));intro v6 w6 hown6 lS _ _;have hlo:∀rr,Value.ownBlock (.slice ua acc.length uc)=some rr->w.heap.size<=rr:=fun rr hr=>(R5.o.lt rr hr).1;have hb6:Below w.heap.size w5 w6:=(As.alloc hs5 _).grown lS Al hlo;have B6:=hid (B5.o.trans hb6);obtain⟨yQ,al6⟩:=Nm (acc++[nm]);rw[al6.o]at HD;have R6:Hid (w6.ownsRow w.heap.size 9 1 v6 yQ.length (dM yQ)):=by rw[<-al6.o];have h:=hown6;unfold dM at *;rw[List.length_append,List.map_append];exact h
     have A6:Hid (VB w6 nb (.int .i64 n.t.kind) (.string n.t.word) (.string n.t.unit) (.slice ka kn kc)):=by
      have hne:some nb≠Value.ownBlock (.slice ua acc.length uc):=fun e=>by
       obtain⟨cur,q3⟩:=aff R5.o e.symm;have q4:w5.heap[nb]?=_:=A5.o;rw[q3]at q4;injection Option.some.inj q4 with _ e5 _
       exact absurd e5 (by decide)
      show _=_;rw[lS.block nb (by have:=A5.o.lt;simp;omega) hne,Below.heap_alloc _ _ _ A5.o.lt];exact A5.o
     have KX:=hid (K5.o.below hb6 hB);clear hown6 lS hb6 hlo a0 a1 a2 a3 q0 q1 q2 A5 R5 K5 RA;obtain⟨a0,a1,a2,a3⟩:=A6.o.cs;obtain⟨va,vc,rfl⟩:=kQ R6.o;have hs6:=B6.o.size;have sH:=hid (HRN.o B _ w6 KX.o oo oo);go_wp2_with fail;refine sH.o.mono ?_;rintro ex w7 ⟨⟨u2,rfl,hrow2⟩,hb7⟩;have R7:Hid (w7.ownsRow w.heap.size 9 1 (.slice va yQ.length vc) yQ.length (dM yQ)):=aP R6.o fun r hr=>hb7.block r (R6.o.lt r hr).2;have B7:=hid (Ay B6.o hb7);have hs7:=B7.o.size;clear hb7 sH;rcases qU hrow2 with⟨rfl,hz2⟩|⟨g2,c2,rfl,hc2⟩
     .have HE:Hid (yQ++lW (l.drop (i+1))=R):=by
       show _=_;rw[<-HD.o,hz2,List.nil_append]
      clear hrow2 hz2;go_wp2_with(at_builtin;go_must(refine wpList_append_own_none rfl _ _ 26 rfl w.heap.size 9 iS 1 Tryz.underlying26 HI.o.1 (.slice va yQ.length vc) yQ.length (dM yQ) rfl R7.o rfl ?_));go_wp2_with fail;go_roundg(gk-1);case measure=>omega
      case rel=>exact⟨_,_,i+1,rfl,by congr 1,oo,R7.o,HE.o,B7.o⟩
     .have HC2:=hid hc2;have HE:Hid ((yQ++lW n.kids)++lW (l.drop (i+1))=R):=by
       show _=_;rw[<-HD.o,List.append_assoc]
      have hle:yQ.length+(lW n.kids).length<=1000000:=by have q:=congrArg List.length HE.o;simp only[List.length_append]at q;omega
      clear hrow2 hc2;go_wp2_with(at_builtin;go_must(refine wpList_append_own_at _ rfl _ _ 26 rfl w.heap.size 9 iS (.string ⟨#[]⟩) 1 16 Tryz.underlying26 HI.o.1 HI.o.2.1 HI.o.2.2.1 HI.o.2.2.2 rfl oo (.slice va yQ.length vc) yQ.length (dM yQ) rfl R7.o ⟨g2,0,none⟩ (lW n.kids).length c2 (dM (lW n.kids)) rfl (by simp[dM]) HC2.o (by simp[dM,Value.oneCell']) Ao oo oo ?_));intro v8 w8 eP lD _ _;have hlo:∀rr,Value.ownBlock (.slice va yQ.length vc)=some rr->w.heap.size<=rr:=fun rr hr=>(R7.o.lt rr hr).1;have B8:=hid (B7.o.grown lD hs7 hlo);have R8:Hid (w8.ownsRow w.heap.size 9 1 v8 (yQ++lW n.kids).length (dM (yQ++lW n.kids))):=by have h:=eP;unfold dM at *;rw[List.length_append,List.map_append];exact h
      clear eP lD hlo;go_wp2_with fail;go_roundg(gk-1);case measure=>omega
      case rel=>exact⟨_,_,i+1,rfl,by congr 1,oo,R8.o,HE.o,B8.o⟩
  .have h1:(l.length:Int)<=(i:Int):=oo;have HE:Hid (acc=R):=by
    show _=_;rw[<-HE0.o,List.drop_of_length_le (show l.length<=i by omega),PV,List.append_nil]
   go_wp2_with fail;go_ret;exact⟨⟨_,rfl,by rw[<-HE.o];exact HO.o⟩,HB.o⟩
theorem afh:∀(k:Nat) (l:List Nd),dL l<=k->UJ l:=by
 intro k;induction k with
 |zero=>intro l hl;refine UK l fun n hn=>?_;have h1:=nK l n hn;have h2:=Sp.gY n;omega
 |succ k ih=>intro l hl;refine UK l fun n hn=>ih _ ?_;have h1:=nK l n hn;have h2:=Sp.gY n;omega
theorem ZB(l:List Nd):UJ l:=afh _ l nl
end
section
open Go.ChangeMaps (setBlock)
open Go.Maps (Keyed)
theorem pY.look1{k t e:TypeId}{w:WD}{b:Nat}{m:Av->Option Av}(h:pY k w b m)(K:Keyed prog k)(ht:prog.underlying t=some (.map k e)){z:Av}(hz:(zeroValue e).run prog w=.ok z w){key:Av}{l:Go.Lit}(hk:keyOf prog k key=some l):
  (Instr.lookup t (.map (some b)) key false).run prog w=.ok ((m key).getD z) w:=by
 obtain⟨es,c,h1,h2,h3,h4,h5⟩:=h;rcases K.find w hk es.toList h2 with⟨hf,hn⟩|⟨j,e0,hf,hj,he⟩
 .have hm:m key=none:=by
   cases hq:m key with
   |none=>rfl
   |some v=>obtain⟨x,hx,e⟩:=h4 _ _ hq;exact absurd e (hn x hx)
  rw[hm];simp[Instr.lookup,run_underlying ht,MapKept.run_getObj_map h1,K.check w _ hk,hf,hz,Result.andThen]
 .have hm:m key=some e0.val:=by rw[<-he];exact h3 e0 (List.mem_of_getElem? hj)
  rw[hm];simp[Instr.lookup,run_underlying ht,MapKept.run_getObj_map h1,K.check w _ hk,hf,Result.andThen]
def kJ(F:Nat->BY->Option jS)(e:Nat)(q:BY):Option (List Nd):=(F e q).map jS.val
def kX(w:WD)(b:Nat)(p:aI)(F:Nat->BY->Option jS)(lp:Nat->BY->Bool):Prop:=∃m,pY 133 w b m/\∀e s v,m (qV e s)=some v->∃t,v=aV t/\Cv p (kJ F) lp e s t
section
variable {w w':WD} {b:Nat} {p:aI} {F:Nat->BY->Option jS} {lp:Nat->BY->Bool}
theorem kX.lt(h:kX w b p F lp):b<w.heap.size:=by obtain⟨m,h1,_⟩:=h;exact h1.lt
theorem kX.keep(h:kX w b p F lp)(he:w'.heap[b]?=w.heap[b]?):kX w' b p F lp:=by obtain⟨m,h1,h2⟩:=h;exact⟨m,h1.keep he,h2⟩
theorem kX.look{e:Nat}{s:BY}(h:kX w b p F lp)(he:e<64)(hs:s.size<=4000000):
  (∃t,(Instr.lookup 75 (.map (some b)) (.agg #[.int .i64 (e:Int),.string s]) true).run prog w=.ok (.tuple #[.agg #[.string t],.bool true]) w/\Cv p (kJ F) lp e s t) \/
  (Instr.lookup 75 (.map (some b)) (.agg #[.int .i64 (e:Int),.string s]) true).run prog w=.ok (.tuple #[.agg #[.string ⟨#[]⟩],.bool false]) w:=by
 obtain⟨m,h1,h2⟩:=h;obtain⟨l,hl⟩:=aiw e s he hs;have hk:=h1.look Zf Tryz.underlying75 (aei w) hl;cases hm:m (.agg #[.int .i64 (e:Int),.string s])with
 |none=>rw[hm]at hk;exact Or.inr hk
 |some v=>rw[hm]at hk;obtain⟨t,rfl,hc⟩:=h2 e s v hm;exact Or.inl ⟨t,hk,hc⟩
theorem kX.upd{e:Nat}{s t:BY}(h:kX w b p F lp)(he:e<64)(hs:s.size<=4000000)(hc:Cv p (kJ F) lp e s t):
  ∃o,(Instr.mapUpdate 75 (.map (some b)) (.agg #[.int .i64 (e:Int),.string s]) (.agg #[.string t])).run prog w=.ok () (setBlock w b o)/\kX (setBlock w b o) b p F lp:=by
 obtain⟨m,h1,h2⟩:=h;obtain⟨l,hl⟩:=aiw e s he hs;open Classical in
 obtain⟨o,hr,hm'⟩:=h1.upd (m':=fun q=>if q=qV e s then some (aV t) else m q) Zf Tryz.underlying75 hl (if_pos rfl) (fun q hq=>if_neg hq);refine⟨o,hr,_,hm',fun e' s' v hv=>?_⟩;by_cases e1:qV e' s'=qV e s
 .obtain⟨rfl,rfl⟩:=ajX e1;have hv':(if qV e' s'=qV e' s' then some (aV t) else m (qV e' s'))=some v:=hv;rw[if_pos rfl]at hv';cases hv';exact⟨t,rfl,hc⟩
 .have hv':(if qV e' s'=qV e s then some (aV t) else m (qV e' s'))=some v:=hv;rw[if_neg e1]at hv';exact h2 e' s' v hv'
end
structure lV(B:Nat)(w:WD)(p:aI)(a:Option Addr)(cap:Nat)(wa:Option Addr)(wc:Nat)(bs:List Nat)(kb:Nat)(F:Nat->BY->Option jS)(lp:Nat->BY->Bool):Prop where
 cas:aa7 B w p a cap wa wc bs
 all:mF B w bs F
 DU:kX w kb p F lp
 ne:kb ∉ bs
 lo:B<=kb
section
variable {B:Nat} {w w':WD} {p:aI} {a:Option Addr} {cap:Nat} {wa:Option Addr} {wc:Nat} {bs:List Nat} {kb:Nat} {F:Nat->BY->Option jS} {lp:Nat->BY->Bool}
theorem lV.turn(h:lV B w p a cap wa wc bs kb F lp)(ht:Turn kb w w')(hk:kX w' kb p F lp):lV B w' p a cap wa wc bs kb F lp:=by
 have hb:Below B w w':=ht.below h.lo h.cas.pg.lt;obtain⟨rb,o,e,hc⟩:=h.cas.win;have hlen:=h.cas.pg.len;have hbl:=h.cas.len;obtain⟨m,hm,_⟩:=h.DU;have hne:rb≠kb:=wC hm (hc 0 oo);have hrl:rb<w.heap.size:=cell_lt (hc 0 oo);refine⟨⟨h.cas.pg.below hb nl,⟨rb,o,e,fun i hi=>?_⟩,h.cas.len,h.cas.cap,h.cas.nd,h.cas.lo⟩,fun i hi=>?_,hk,h.ne,h.lo⟩
 .rw[World.cell?_of_block (w:=w) (a:=⟨rb,_,none⟩) (ht.block rb hrl hne)];exact hc i hi
 .exact(h.all i hi).keep hb (ht.block _ (h.all i hi).lt (fun e2=>h.ne (e2 ▸ List.getElem_mem hi)))
theorem lV.below(h:lV B w p a cap wa wc bs kb F lp)(hb:Below w.heap.size w w'):lV B w' p a cap wa wc bs kb F lp:=h.turn (Turn.of_below hb) (h.DU.keep (hb.block _ h.DU.lt))
end
theorem DV{w:WD}{b b':Nat}{u:Av}{n:Nat}{xs:List Av}(h:w.ownsRow b 9 1 u n xs)(hb:b'<=b):w.ownsRow b' 9 1 u n xs:=by
 refine⟨h.1,?_⟩;rcases h.2 with h2|⟨g,cap,cur,h3,h4,h5⟩
 .exact .inl h2
 .exact .inr ⟨g,cap,cur,h3,Nat.le_trans hb h4,h5⟩
theorem DW{F:Nat->BY->Option jS}{e:Nat}{s:BY}(h:F e s=none):yO (kJ F) e s=[]:=by unfold yO kJ;rw[h];rfl
theorem yR{F:Nat->BY->Option jS}{e:Nat}{s:BY}{x:jS}(h:F e s=some x):yO (kJ F) e s=lW x.val:=by unfold yO kJ;rw[h];rfl
theorem ahN(w:WD)(pr:BY)(v:Av)(im:Bool)(x y z:Int):(Instr.field 184 (.agg #[.string pr,v,.bool im,.int .i64 x,.int .i64 y,.int .i64 z]) 0).run prog w=.ok (.agg #[.string pr,v,.bool im]) w:=by kernel_rfl
theorem ahO(w:WD)(pr:BY)(v:Av)(im:Bool):(Instr.field 181 (.agg #[.string pr,v,.bool im]) 1).run prog w=.ok v w:=by kernel_rfl
theorem KF(B:Nat)(p:aI)(a:Option Addr)(cap:Nat)(wa:Option Addr)(wc:Nat)(bs:List Nat)(kb:Nat)(F:Nat->BY->Option jS)(lp:Nat->BY->Bool)(e:Nat)(s:BY)(w:WD)(h:lV B w p a cap wa wc bs kb F lp)(hs:s.size<=4000000)(he:e<p.length)
  (hF:∀x,F e s=some x->dL x.val<=12000):
  Calls prog 167 #[.agg #[.slice a p.length cap,.slice wa bs.length wc,.map (some kb)],.int .i64 (e:Int),.string s] w
   fun ex w'=>(∃u,ex=.returned u/\w'.ownsRow w.heap.size 9 1 u (yO (kJ F) e s).length (dM (yO (kJ F) e s)))/\Below w.heap.size w w':=by
 have B0:Hid (Below w.heap.size w (w.alloc (.cells #[.slice a p.length cap,.slice wa bs.length wc,.map (some kb)] 77))):=As.alloc nl _;have K0:Hid (K3 (w.alloc (.cells #[.slice a p.length cap,.slice wa bs.length wc,.map (some kb)] 77)) w.heap.size (.slice a p.length cap) (.slice wa bs.length wc) (.map (some kb))):=K3.new _ _ _ _;have S0:=hid (h.below B0.o);have hlen:=h.cas.pg.len;have hbl:=h.cas.len;have hcw:=h.cas.cap;have HFx:=hid hF;clear h hF;have heb:e<bs.length:=oo;have h1:(e:Int)<(bs.length:Int):=oo;have al2:bs.length<=30:=oo;clear hbl;have fw:=ahN;have fd:=ahO;go_in;go_upto_region 1 with fail
 generalize hw0:w.alloc (.cells #[.slice a p.length cap,.slice wa bs.length wc,.map (some kb)] 77)=w0 at *;have hs0:w0.heap.size=w.heap.size+1:=by rw[<-hw0];simp
 clear hw0;obtain⟨k0,k1,k2⟩:=K0.o.cs;obtain⟨rb,ro,rfl,hcl⟩:=S0.o.cas.win;have c0:=hcl e heb;have hBw:=S0.o.cas.pg.lt;obtain⟨m,hm,hf⟩:=S0.o.all e heb;have hlk:=hm.look1 qO Tryz.underlying127 (JR w0) (zo hs);have hfx:=hf s;cases hfp:F e s with
 |none=>
  rw[hfp]at hfx;have yD:m (.string s)=none:=hfx;rw[yD]at hlk;have al7:(Instr.lookup 127 (.map (some bs[e])) (.string s) false).run prog w0=.ok (.agg #[.string ⟨#[]⟩,.slice none 0 0,.bool false,.int .i64 0,.int .i64 0,.int .i64 0]) w0:=hlk;have HN:Hid (yO (kJ F) e s=[]):=DW hfp;have HC:=hid (ZB [] B (.slice none 0 0) w0 (Sl.nil _ _) hBw (by simp[dL]));clear hf hfx yD hm hcl hlk hfp;go_wp2_with fail;refine HC.o.mono ?_;rintro ex w1 ⟨⟨u,rfl,hrow⟩,hb1⟩;have B1:=hid (Ay B0.o hb1);have R1:Hid (w1.ownsRow w.heap.size 9 1 u (yO (kJ F) e s).length (dM (yO (kJ F) e s))):=by
   rw[HN.o];rw[PV]at hrow;rcases qU hrow with⟨rfl,_⟩|⟨g,c,rfl,_⟩
   .exact World.ownsRow_nil _ _ _ _
   .exact DV hrow oo
  clear hb1 hrow;go_wp2_with fail;go_ret;exact⟨⟨_,rfl,R1.o⟩,B1.o⟩
 |some x=>
  rw[hfp]at hfx;obtain⟨epr,va,vc,yD,hxs⟩:=hfx;rw[yD]at hlk;unfold wnV at hlk;simp only[Option.getD_some]at hlk;have hwz:=HFx.o x hfp;have HN:Hid (yO (kJ F) e s=lW x.val):=yR hfp;have HC:=hid (ZB x.val B _ w0 hxs hBw oo);clear hf yD hm hcl epr hfp hxs;go_wp2_with fail;refine HC.o.mono ?_;rintro ex w1 ⟨⟨u,rfl,hrow⟩,hb1⟩;have B1:=hid (Ay B0.o hb1);have R1:Hid (w1.ownsRow w.heap.size 9 1 u (yO (kJ F) e s).length (dM (yO (kJ F) e s))):=by rw[HN.o];exact DV hrow oo
  clear hb1 hrow;go_wp2_with fail;go_ret;exact⟨⟨_,rfl,R1.o⟩,B1.o⟩
end
