import Derived.Test.YtlliliddljkbfaaGreatC3
import Derived.Deep.RegionHeld3
set_option maxHeartbeats 64000000
set_option maxRecDepth 100000
namespace Go.Proofs.YtlliliddljkbfaaGreat
open Go.Proofs.Tryz (prog)
open Go.RowKit Sp
theorem tu(B:Nat)(l:List Nd)(v:Av)(w:WD)(h:Sl (fun b=>b<B) w v l):
  Calls prog 120 #[v] w fun e w'=>∃v',e=.returned v'/\Sl (fun b=>b<B) w v' (bare l)/\w'=w:=by
 have hl:=h.len;have HS:=hid h;obtain⟨a,cap,rfl⟩:=h.form;clear h;go_in;go_wp2_with fail;go_loopg[0] l.length (fun g v0 wr=>∃(cur:List Nd) (a:Option Addr) (cap:Nat),v0=.slice a cur.length cap/\g=cur.length/\cur.length<=600/\Aside (Sl (fun b=>b<B) w (.slice a cur.length cap) cur/\aH cur=aH l/\wr=w));case atStart=>exact⟨l,a,cap,rfl,rfl,hl,HS.o,rfl,rfl⟩
 case round=>
  obtain⟨cur,a,cap,rfl,rfl,FU,hA⟩:=hrel;have HC:=hid hA.o.1;have HD:=hid hA.o.2.1;obtain rfl:=hA.o.2.2;clear hA HS hl;by_cases hx:∃n r,cur=n::r/\n.t.kind=1
  .obtain⟨n,r,rfl,hk⟩:=hx;obtain⟨g,o,rfl,hL,hcap⟩:=HC.o.here Aa;obtain⟨kv,hN⟩:=hL.node (i:=0) Aa;have c0:=hN.c0;have HT:=hid HC.o.tail;have HD2:Hid (aH r=aH l):=by show _=_;rw[<-HD.o,pU hk]
   have hb:(n.t.kind==1)=true:=by simpa using hk
   clear hN hL hk HC HD;simp only[Nat.zero_mul,Nat.add_zero,List.getElem_cons_zero,List.length_cons]at *;go_wp2_with fail
   .go_roundg r.length;case measure=>omega
    case rel=>have e:r=[]:=List.eq_nil_of_length_eq_zero oo;subst e;exact⟨[],_,_,rfl,rfl,by simp,Sl.iE _ _ _ _,HD2.o,rfl⟩
   .go_roundg r.length;case measure=>omega
    case rel=>exact⟨r,_,_,rfl,rfl,oo,HT.o,HD2.o,rfl⟩
  .have HE:Hid (aH l=cur):=by
    show _=_;rw[<-HD.o];cases cur with
    |nil=>rfl
    |cons n r=>exact pV (fun e=>hx ⟨n,r,rfl,e⟩)
   clear HD;cases cur with
   |nil=>
    clear hx;simp only[List.length_nil]at *;go_wp2_with fail;go_loopg[0] 0 (fun g v0 wq=>v0=.slice a 0 cap/\Aside (wr=wq));case atStart=>exact⟨rfl,rfl⟩
    case round=>obtain⟨rfl,hA⟩:=hrel;obtain rfl:=hA.o;clear hA;go_wp2_with fail;go_ret;exact⟨_,rfl,by unfold bare;rw[HE.o];exact Sl.iE _ _ _ _,rfl⟩
   |cons n r=>
    obtain⟨g,o,rfl,hL,hcap⟩:=HC.o.here Aa;obtain⟨kv,hN⟩:=hL.node (i:=0) Aa;have c0:=hN.c0;have hb:(n.t.kind==1)=false:=by simp;exact fun e=>hx ⟨n,r,rfl,e⟩
    clear hN hx;simp only[Nat.zero_mul,Nat.add_zero,List.getElem_cons_zero,List.length_cons]at *;go_wp2_with fail;obtain⟨all,hall⟩:∃all,all=n::r:=⟨_,rfl⟩;have HN:Hid (r.length+1=all.length):=by rw[hall];rfl
    have hal:all.length<=600:=by rw[<-HN.o];exact FU
    have hac:all.length<=cap:=by rw[<-HN.o];exact hcap
    have HL:Hid (gq (fun b=>b<B) wr all g o):=by rw[hall];exact hL
    have HC2:Hid (Sl (fun b=>b<B) wr (.slice (some ⟨g,o,none⟩) (r.length+1) cap) all):=by rw[hall];exact HC.o
    rw[<-hall]at HE;clear hL HC hall c0 hb;go_loopg[0] all.length (fun g' v0 wq=>∃(j:Nat),j<=all.length/\v0=.slice (some ⟨g,o,none⟩) j cap/\g'=j/\Aside (lJ (all.take j)=lJ all/\wr=wq));case atStart=>exact⟨all.length,Nat.le_refl _,by rw[<-HN.o],rfl,by simp,rfl⟩
    case round=>
     obtain⟨j,hj,rfl,hjg,hA⟩:=hrel;subst hjg;have HT:=hid hA.o.1;obtain rfl:=hA.o.2;clear hA;by_cases hj0:gk=0
     .subst hj0;go_wp2_with fail;go_ret;refine⟨_,rfl,?_,rfl⟩;unfold bare;rw[HE.o,<-HT.o];exact Sl.iE _ _ _ _
     .have h1:(0:Int)<(gk:Int):=oo;obtain⟨kv,hN⟩:=HL.o.node (i:=gk-1) oo;have c0:=hN.c0;have e1:all.take gk=all.take (gk-1)++[all[gk-1]]:=by
       conv=>lhs;rw[show gk=gk-1+1 from by omega]
       rw[List.take_succ_eq_append_getElem oo]
      clear hN;obtain⟨x,hxx⟩:∃x,x=all[gk-1]:=⟨_,rfl⟩;rw[<-hxx]at c0 e1;have E1:=hid e1;clear hxx e1;cases hb:(x.t.kind==1)
      .have HV:Hid (bare l=all.take gk):=by
        show _=_;unfold bare;rw[HE.o,<-HT.o,E1.o,Fa (by simpa using hb)]
       go_wp2_with fail;go_ret;refine⟨_,rfl,?_,rfl⟩;rw[HV.o];exact HC2.o.init gk hj
      .have HV:Hid (lJ (all.take (gk-1))=lJ all):=by
        show _=_;rw[<-HT.o,E1.o,Qs (by simpa using hb)]
       go_wp2_with fail;go_roundg(gk-1);case measure=>omega
       case rel=>exact⟨gk-1,oo,rfl,rfl,HV.o,rfl⟩
section
theorem bI(a b c d:Av)(w:WD):(Instr.field 199 (.agg #[a,b,c,d]) 0).run prog w=.ok (.agg #[a,b,c]) w:=by kernel_rfl
theorem bJ(a b c d:Av)(w:WD):(Instr.field 199 (.agg #[a,b,c,d]) 1).run prog w=.ok d w:=by kernel_rfl
theorem aX(a b c:Av)(w:WD):(Instr.field 93 (.agg #[a,b,c]) 0).run prog w=.ok a w:=by kernel_rfl
theorem aY(a b c:Av)(w:WD):(Instr.field 93 (.agg #[a,b,c]) 1).run prog w=.ok b w:=by kernel_rfl
attribute [local go_sem] bI bJ aX aY
structure fV(B:Nat)(w:WD)(b:Nat)(sv:Av)(l:List Nd):Prop where
 blk:w.heap[b]?=some (.cells #[sv] 270 (0,0))
 sl:Sl (fun k=>k<B) w sv l
 lo:B<=b
theorem Turn.trans'{c:Nat}{w wr w':WD}(h:Turn c w wr)(hb:Below w.heap.size wr w'):Turn c w w':=⟨hb.os.trans h.os,hb.tape.trans h.tape,hb.output.trans h.output,Nat.le_trans h.size hb.size,fun k hk hc=>(hb.block k hk).trans (h.block k hk hc)⟩
section
variable {B:Nat} {w w':WD} {b:Nat} {sv sv':Av} {l l':List Nd}
theorem fV.lt(h:fV B w b sv l):b<w.heap.size:=(Ax h.blk)
theorem fV.c0(h:fV B w b sv l):w.cell? ⟨b,0,none⟩=some sv:=by unfold World.cell?;rw[h.blk];rfl
theorem fV.f0(h:fV B w b sv l):w.frozen? ⟨b,0,none⟩=false:=by unfold World.frozen?;rw[h.blk];rfl
theorem fV.below(h:fV B w b sv l)(hb:Below w.heap.size w w'):fV B w' b sv l:=⟨by rw[hb.block b h.lt];exact h.blk,h.sl.below hb (by have:=h.lt;have:=h.lo;omega),h.lo⟩
theorem fV.turn(h:fV B w b sv l){c:Nat}(hb:Turn c w w')(hc:b<c):fV B w' b sv l:=⟨by rw[hb.block b h.lt oo];exact h.blk,h.sl.keep (fun _ hg=>hg) (fun g hg=>by have hg':g<B:=hg;have:=h.lo;have:=h.lt;exact hb.block g oo oo),h.lo⟩
theorem fV.alloc(h:fV B w b sv l)(o:Obj):fV B (w.alloc o) b sv l:=h.below (As.alloc nl _)
theorem fV.set(h:fV B w b sv l)(hs:Sl (fun k=>k<B) w sv' l'):fV B (w.setCell ⟨b,0,none⟩ sv') b sv' l':=by refine⟨?_,hs.keep (fun _ hg=>hg) (fun g hg=>Below.heap_setCell _ _ _ _ (by have hg':g<B:=hg;have:=h.lo;show g≠b;omega)),h.lo⟩;simp only[World.setCell,Array.getElem?_modify,h.blk];simp
theorem fV.far(h:fV B w b sv l){k:Nat}(hk:b<k)(o:Nat)(u:Av):fV B (w.setCell ⟨k,o,none⟩ u) b sv l:=⟨by rw[Below.heap_setCell _ _ _ _ (by show b≠k;omega)];exact h.blk,h.sl.keep (fun _ hg=>hg) (fun g hg=>Below.heap_setCell _ _ _ _ (by have hg':g<B:=hg;have:=h.lo;show g≠k;omega)),h.lo⟩
theorem Turn.far{c:Nat}(h:Turn c w w'){k:Nat}(hk:w.heap.size<=k)(o:Nat)(u:Av):Turn c w (w'.setCell ⟨k,o,none⟩ u):=h.trans' ⟨rfl,rfl,rfl,by simp[World.setCell],fun j hj=>Below.heap_setCell _ _ _ _ (by show j≠k;omega)⟩
theorem Sl.far{v:Av}{k:Nat}(h:Sl (fun b=>b<B) w v l)(hk:B<=k)(o:Nat)(u:Av):Sl (fun b=>b<B) (w.setCell ⟨k,o,none⟩ u) v l:=h.keep (fun _ hg=>hg) (fun g hg=>Below.heap_setCell _ _ _ _ (by have hg':g<B:=hg;show g≠k;omega))
theorem fV.len(h:fV B w b sv l):l.length<=600:=h.sl.len
end
def VB(w:WD)(b:Nat)(x0 x1 x2 x3:Av):Prop:=w.heap[b]?=some (.cells #[x0,x1,x2,x3] 199 (0,0))
section
variable {w w':WD} {b:Nat} {x0 x1 x2 x3:Av}
theorem VB.lt(h:VB w b x0 x1 x2 x3):b<w.heap.size:=(Ax h)
theorem VB.cs(h:VB w b x0 x1 x2 x3):w.cell? ⟨b,0,none⟩=some x0/\w.cell? ⟨b,1,none⟩=some x1/\w.cell? ⟨b,2,none⟩=some x2/\w.cell? ⟨b,3,none⟩=some x3:=by have h':w.heap[b]?=_:=h;refine⟨?_,?_,?_,?_⟩<;>(unfold World.cell?;rw[h'];rfl)
theorem VB.fz(h:VB w b x0 x1 x2 x3)(o:Nat):w.frozen? ⟨b,o,none⟩=false:=by have h':w.heap[b]?=_:=h;unfold World.frozen?;rw[h'];simp
theorem VB.below(h:VB w b x0 x1 x2 x3)(hb:Below w.heap.size w w'):VB w' b x0 x1 x2 x3:=by show _=_;rw[hb.block b h.lt];exact h
theorem VB.turn(h:VB w b x0 x1 x2 x3){c:Nat}(hb:Turn c w w')(hc:b≠c):VB w' b x0 x1 x2 x3:=by show _=_;rw[hb.block b h.lt hc];exact h
theorem VB.alloc(h:VB w b x0 x1 x2 x3)(o:Obj):VB (w.alloc o) b x0 x1 x2 x3:=h.below (As.alloc nl _)
theorem VB.new(w:WD)(x0 x1 x2 x3:Av):VB (w.alloc (.cells #[x0,x1,x2,x3] 199)) w.heap.size x0 x1 x2 x3:=heap_alloc_new w _
end
def hdN:List Nd->Nd
 |[]=>.mk (Tok.k 0) []
 |n::_=>n
theorem vg(B b:Nat)(sv:Av)(l:List Nd)(w:WD)(h:fV B w b sv l):
  Calls prog 197 #[.pointer (some ⟨b,0,none⟩)] w fun e w'=>e=.returned (.bool (l.length==0))/\w'=w:=by
 obtain⟨a,cap,rfl⟩:=h.sl.form;have c0:=h.c0;have hl:=h.len;clear h;have HV:Hid (((l.length:Int)==0)=(l.length==0)):=by show _=_;rw[Bool.eq_iff_iff];simp
 go_in;go_wp2_with fail;go_ret;exact⟨aC HV.o,rfl⟩
theorem Hg(B b:Nat)(sv:Av)(l:List Nd)(w:WD)(h:fV B w b sv l):
  Calls prog 253 #[.pointer (some ⟨b,0,none⟩)] w fun e w'=>∃kv,e=.returned (fB (hdN l).t kv)/\Sl (fun k=>k<B) w' kv (hdN l).kids/\Below w.heap.size w w':=by
 have R1:∀o,Hid (fV B (w.alloc o) b sv l):=fun o=>h.alloc o;have hlo:=h.lo;have hlt:=h.lt;cases l with
 |nil=>clear h;go_in;go_wp2_with fail;refine(vg B b sv [] _ (R1 _).o).mono ?_;rintro e w1 ⟨rfl,rfl⟩;go_wp2_with fail;refine bodyPost_ret (v:=fB (Tok.k 0) (.slice none 0 0)) (by simp[results,Tryz.results253,go_sem,fB,Tok.k];rfl) rfl ?_;exact⟨_,rfl,Sl.nil _ _,As.alloc nl _⟩
 |cons n r=>
  obtain⟨g,o,kv,cap,rfl,hN,hcap⟩:=h.sl.head;have hgB:g<B:=hN.s;have HN:=hid hN;have hrl:=h.len;simp only[List.length_cons]at hrl;have hn0:¬((r.length:Int)+1<=0):=oo;clear h hN;go_in;go_wp2_with fail;refine(vg B b _ (n::r) _ (R1 _).o).mono ?_;rintro e w1 ⟨rfl,rfl⟩;have c0:=(R1 (.cells #[.int .i64 0,.string ⟨#[]⟩,.string ⟨#[]⟩,.slice none 0 0] 199)).o.c0;have N1:=HN.o.below ((Below.refl B w).alloc (show B<=w.heap.size by omega) (.cells #[.int .i64 0,.string ⟨#[]⟩,.string ⟨#[]⟩,.slice none 0 0] 199));have d0:=N1.c0;have d1:=N1.c1;have d2:=N1.c2;have d3:=N1.c3;obtain⟨ka,kc,rfl⟩:=HN.o.k.form;go_wp2_with fail;refine bodyPost_ret (v:=fB n.t (.slice ka n.kids.length kc)) (by simp[results,Tryz.results253,go_sem,fB]) rfl ?_
  exact⟨_,rfl,HN.o.k.below ((Below.refl w.heap.size w).alloc nl _) oo,As.alloc nl _⟩
theorem yZ:∃i,prog.info? 199=some i/\i.zero=some (.agg #[.int .i64 0,.string ⟨#[]⟩,.string ⟨#[]⟩,.slice none 0 0])/\i.size=4/\i.bytes=64:=info_parts An
theorem Sl.MH{S:Nat->Prop}{w:WD}{a:Option Addr}{n cap:Nat}{x:Nd}{r:List Nd}(h:Sl S w (.slice a n cap) (x::r)):
  ∃a',(∀W:WD,(Instr.slice 128 (.slice a (r.length+1) cap) (some (.int .i64 1)) none none).run prog W=.ok (.slice a' r.length (cap-1)) W)/\Sl S w (.slice a' r.length (cap-1)) r:=by
 obtain⟨iT,h1,_,h3,_⟩:=yZ;refine⟨if cap=1 then a else a.map (·.add (1*4)),fun W=>?_,?_⟩
 .rw[run_slice_l (P:=prog) W 128 a (r.length+1) cap Tryz.underlying128 .i64 1 oo oo];have e:prog.elem 128=199:=by kernel_rfl
  simp[sizeOf,typeInfo,e,h1,h3,sliced,Result.andThen]
 .have:=h.cut 1 (r.length+1) oo Aa;simpa[sliced]using this
theorem sN(B b:Nat)(sv:Av)(l:List Nd)(w:WD)(h:fV B w b sv l):
  Calls prog 254 #[.pointer (some ⟨b,0,none⟩)] w fun e w'=>∃kv sv',e=.returned (fB (hdN l).t kv)/\Sl (fun k=>k<B) w' kv (hdN l).kids/\fV B w' b sv' l.tail/\Turn b w w':=by
 have R1:∀o,Hid (fV B (w.alloc o) b sv l):=fun o=>h.alloc o;have hlo:=h.lo;have hlt:=h.lt;have FU:=h.len;clear h;have T1:∀o,Hid (Turn b w (w.alloc o)):=fun o=>(Turn.refl b w).alloc o;have z1:∀o,w.heap.size<(w.alloc o).heap.size:=fun o=>by simp
 go_in;go_wp2_with fail;generalize hW:w.alloc (.cells #[.int .i64 0,.string ⟨#[]⟩,.string ⟨#[]⟩,.slice none 0 0] 199)=w1 at *;have R2:Hid (fV B w1 b sv l):=by rw[<-hW];exact R1 _
 have T2:Hid (Turn b w w1):=by rw[<-hW];exact T1 _
 have Z2:Hid (w1.heap[w.heap.size]?=some (.cells #[.int .i64 0,.string ⟨#[]⟩,.string ⟨#[]⟩,.slice none 0 0] 199 (0,0))):=by rw[<-hW];exact heap_alloc_new w _
 clear hW R1 T1 z1;obtain⟨gr,Hgr⟩:=Nm w.heap.size;rw[Hgr.o]at Z2⊢;have Z2':Hid (VB w1 gr (.int .i64 0) (.string ⟨#[]⟩) (.string ⟨#[]⟩) (.slice none 0 0)):=Z2;clear Z2;refine(Hg B b sv l _ R2.o).mono ?_;rintro e w2 ⟨kv,rfl,hk,hb2⟩;have R3:=hid (R2.o.below hb2);have T3:=hid (T2.o.trans (Turn.of_below hb2));have Z3:=hid (Z2'.o.below hb2);obtain⟨n,Hn⟩:=Nm (hdN l);rw[Hn.o]at hk⊢;obtain⟨ka,kc,rfl⟩:=hk.form;have HK3:=hid hk;clear hk hb2 R2 T2 Z2';unfold fB
 have A4:Hid (VB (w2.alloc (.cells #[.int .i64 n.t.kind,.string n.t.word,.string n.t.unit,.slice ka n.kids.length kc] 199)) w2.heap.size (.int .i64 n.t.kind) (.string n.t.word) (.string n.t.unit) (.slice ka n.kids.length kc)):=VB.new _ _ _ _ _;have R4:Hid (fV B (w2.alloc (.cells #[.int .i64 n.t.kind,.string n.t.word,.string n.t.unit,.slice ka n.kids.length kc] 199)) b sv l):=R3.o.alloc _;have T4:Hid (Turn b w (w2.alloc (.cells #[.int .i64 n.t.kind,.string n.t.word,.string n.t.unit,.slice ka n.kids.length kc] 199))):=T3.o.alloc _;have Z4:Hid (VB (w2.alloc (.cells #[.int .i64 n.t.kind,.string n.t.word,.string n.t.unit,.slice ka n.kids.length kc] 199)) gr (.int .i64 0) (.string ⟨#[]⟩) (.string ⟨#[]⟩) (.slice none 0 0)):=Z3.o.alloc _
 have K4:Hid (Sl (fun k=>k<B) (w2.alloc (.cells #[.int .i64 n.t.kind,.string n.t.word,.string n.t.unit,.slice ka n.kids.length kc] 199)) (.slice ka n.kids.length kc) n.kids):=HK3.o.below ((Below.refl w2.heap.size w2).alloc nl _) (by have:=R3.o.lt;omega);have hgz:gr<w2.heap.size:=Z3.o.lt;have hbz:b<w2.heap.size:=R3.o.lt;have hbg:¬b=gr:=by have:=Hgr.o;omega
 clear R3 T3 Z3 HK3;go_upto_region 2 with fail
 generalize w2.alloc (.cells #[.int .i64 n.t.kind,.string n.t.word,.string n.t.unit,.slice ka n.kids.length kc] 199)=w4 at *;generalize w2.heap.size=gt at *;go_wp2_with fail;refine(vg B b sv l _ R4.o).mono ?_;rintro e w5 ⟨rfl,rfl⟩;obtain⟨a0,a1,a2,a3⟩:=A4.o.cs;have z0:=Z4.o.fz 0;have z1:=Z4.o.fz 1;have z2:=Z4.o.fz 2;have z3:=Z4.o.fz 3;obtain⟨y0,y1,y2,y3⟩:=Z4.o.cs;have hgg:¬gt=gr:=oo;have hbt:¬b=gt:=oo;cases l with
 |nil=>go_wp2_with fail;refine bodyPost_ret (v:=fB n.t (.slice ka n.kids.length kc)) (by simp[results,Tryz.results254,go_sem,fB,y0,y1,y2,y3]) rfl ?_;have hgr:=Hgr.o;exact⟨_,sv,by rw[Hn.o],by rw[Hn.o];exact(((K4.o.far oo _ _).far oo _ _).far oo _ _).far oo _ _,(((R4.o.far oo _ _).far oo _ _).far oo _ _).far oo _ _,(((T4.o.far oo _ _).far oo _ _).far oo _ _).far oo _ _⟩
 |cons m r=>obtain⟨g,o,kv2,cap,rfl,hN,hcap⟩:=R4.o.sl.head;obtain⟨a',hcut,hS⟩:=R4.o.sl.MH;have c0:=R4.o.c0;have f0:=R4.o.f0;simp only[List.length_cons]at FU;go_wp2_with fail;have R6:=R4.o.set hS;refine bodyPost_ret (v:=fB n.t (.slice ka n.kids.length kc)) (by simp[results,Tryz.results254,go_sem,fB,y0,y1,y2,y3]) rfl ?_;have hgr:=Hgr.o;exact⟨_,_,by rw[Hn.o],by rw[Hn.o];exact((((K4.o.far oo _ _).far oo _ _).far oo _ _).far oo _ _).far oo _ _,(((R6.far oo _ _).far oo _ _).far oo _ _).far oo _ _,((((T4.o.setCell _ _).far oo _ _).far oo _ _).far oo _ _).far oo _ _⟩
def zy(s:BY)(l:List Nd):List Nd:=if au (hdN l).t s=true then l.tail else l
theorem y5{s:BY}{l:List Nd}(h:au (hdN l).t s=false):zy s l=l:=by unfold zy;rw[h];rfl
theorem qZ{s:BY}{l:List Nd}(h:au (hdN l).t s=true):zy s l=l.tail:=by unfold zy;rw[if_pos h]
theorem oP(B b:Nat)(sv:Av)(l:List Nd)(s:BY)(w:WD)(h:fV B w b sv l):
  Calls prog 255 #[.pointer (some ⟨b,0,none⟩),.string s] w fun e w'=>∃sv',e=.returned (.bool (au (hdN l).t s))/\fV B w' b sv' (zy s l)/\Turn b w w':=by
 have R1:=hid h;clear h;go_in;go_wp2_with fail;refine(Hg B b sv l _ R1.o).mono ?_;rintro e w1 ⟨kv,rfl,_,hb1⟩;have R2:=hid (R1.o.below hb1);have T2:Hid (Turn b w w1):=Turn.of_below hb1;clear hb1 R1;go_wp2_with fail;refine pmb (jf _ kv s _) fun w2 hb2=>?_;have R3:=hid (R2.o.below hb2);have T3:=hid (T2.o.trans (Turn.of_below hb2));clear hb2 R2 T2;obtain⟨c,Hc⟩:=Nm (au (hdN l).t s);rw[Hc.o];cases c
 .go_wp2_with fail;go_ret;exact⟨_,aC Hc.o.symm,by rw[y5 Hc.o];exact R3.o,T3.o⟩
 .go_wp2_with fail;refine(sN B b sv l _ R3.o).mono ?_;rintro e w4 ⟨kv4,sv4,rfl,_,ZR,hT4⟩;have R5:=hid ZR;have T5:=hid (T3.o.trans hT4);clear ZR hT4;go_wp2_with fail;go_ret;exact⟨_,aC Hc.o.symm,by rw[qZ Hc.o];exact R5.o,T5.o⟩
theorem y7(B b:Nat)(sv:Av)(l:List Nd)(w:WD)(h:fV B w b sv l):
  Calls prog 258 #[.pointer (some ⟨b,0,none⟩)] w fun e w'=>∃sv',e=.returned (.bool (decide ((aH l).length<l.length)))/\fV B w' b sv' (aH l)/\Turn b w w':=by
 have R1:=hid h;clear h;go_in;go_wp2_with fail;go_loopg[3] l.length (fun g v3 wr=>∃(cur:List Nd) (sv:Av) (p:Bool),v3=.bool p/\g=cur.length/\Aside (fV B wr b sv cur/\Turn b w wr/\aH cur=aH l/\cur.length<=l.length/\p=decide (cur.length<l.length)));case atStart=>exact⟨l,sv,false,rfl,rfl,R1.o,Turn.refl _ _,rfl,Nat.le_refl _,by simp⟩
 case round=>
  obtain⟨cur,sv,p,rfl,rfl,hA⟩:=hrel;have R2:=hid hA.o.1;have T2:=hid hA.o.2.1;have HD:=hid hA.o.2.2.1;have HL:=hid hA.o.2.2.2;clear hA R1;go_wp2_with fail;refine(Hg B b sv cur _ R2.o).mono ?_;rintro e w1 ⟨kv,rfl,_,hb1⟩;have R3:=hid (R2.o.below hb1);have T3:=hid (T2.o.trans (Turn.of_below hb1));clear hb1 R2 T2;unfold fB;cases hk:((hdN cur).t.kind==1)
  .have HE:Hid (aH l=cur):=by
    show _=_;rw[<-HD.o];cases cur with
    |nil=>rfl
    |cons n r=>exact pV (by simpa[hdN]using hk)
   have HV:Hid (p=decide ((aH l).length<l.length)):=by show _=_;rw[HE.o];exact HL.o.2
   go_wp2_with fail;go_ret;exact⟨_,aC HV.o,by rw[HE.o];exact R3.o,T3.o⟩
  .obtain⟨n,r,rfl,hn⟩:∃n r,cur=n::r/\n.t.kind=1:=by
    cases cur with
    |nil=>simp[hdN,Tok.k]at hk
    |cons n r=>exact⟨n,r,rfl,by simpa[hdN]using hk⟩
   have HD2:Hid (aH r=aH l):=by show _=_;rw[<-HD.o,pU hn]
   have HL2:Hid (r.length<=l.length/\true=decide (r.length<l.length)):=by have:=HL.o.1;simp only[List.length_cons]at this;exact⟨oo,by simp;omega⟩
   clear hn HD HL;go_wp2_with fail;refine(sN B b sv (n::r) _ R3.o).mono ?_;rintro e w4 ⟨kv4,sv4,rfl,_,ZR,hT4⟩;have R5:=hid ZR;have T5:=hid (T3.o.trans hT4);clear ZR hT4;go_wp2_with fail;go_roundg r.length;case measure=>simp
   case rel=>exact⟨r,sv4,true,rfl,rfl,R5.o,T5.o,HD2.o,HL2.o.1,HL2.o.2⟩
end
def wlI(c:Int):Bool:=(decide (97<=c)&&decide (c<=122))||(decide (65<=c)&&decide (c<=90))
def wdI(c:Int):Bool:=decide (48<=c)&&decide (c<=57)
def wtI(c:Int):Bool:=decide (32<=c)&&decide (c<=126)&&!(c==34||c==92||c==60||c==62)
def wkI(c:Int):Bool:=wlI c||wdI c||c==46||c==47||c==58||c==45
theorem tZ(c:UInt8)(n:Nat)(hn:n<256):(c==UInt8.ofNat n)=((c.toNat:Int)==(n:Int)):=by
 rw[Bool.eq_iff_iff];simp;constructor
 .rintro rfl;simp;omega
 .intro h;apply UInt8.toNat_inj.1
  have:c.toNat=n:=oo;rw[this];simp;omega
theorem aii(c:UInt8):wlI (c.toNat:Int)=oU c:=by unfold wlI oU;rw[Bool.eq_iff_iff];simp;omega
theorem aij(c:UInt8):wdI (c.toNat:Int)=oV c:=by unfold wdI oV;rw[Bool.eq_iff_iff];simp;omega
theorem akM(c:UInt8):wtI (c.toNat:Int)=jO c:=by unfold wtI jO;rw[show(c==34)=((c.toNat:Int)==34) from tZ c 34 oo,show(c==92)=((c.toNat:Int)==92) from tZ c 92 oo,show(c==60)=((c.toNat:Int)==60) from tZ c 60 oo,show(c==62)=((c.toNat:Int)==62) from tZ c 62 oo];rw[Bool.eq_iff_iff];simp;omega
theorem akN(c:UInt8):wkI (c.toNat:Int)=xH c:=by unfold wkI xH;rw[aii,aij,show(c==46)=((c.toNat:Int)==46) from tZ c 46 oo,show(c==47)=((c.toNat:Int)==47) from tZ c 47 oo,show(c==58)=((c.toNat:Int)==58) from tZ c 58 oo,show(c==45)=((c.toNat:Int)==45) from tZ c 45 oo]
theorem mZ(c:Int)(w:WD):Calls prog 294 #[.int .u8 c] w fun e w'=>e=.returned (.bool (wlI c))/\w'=w:=by
 go_in;go_wp2
 all_goals
  go_ret;exact⟨aC (by rw[Bool.eq_iff_iff];simp[wlI, *]<;>omega),rfl⟩
theorem pW(c:Int)(w:WD):Calls prog 295 #[.int .u8 c] w fun e w'=>e=.returned (.bool (wdI c))/\w'=w:=by
 go_in;go_wp2
 all_goals
  go_ret;exact⟨aC (by rw[Bool.eq_iff_iff];simp[wdI, *]<;>omega),rfl⟩
theorem QA(c:Int)(w:WD):Calls prog 278 #[.int .u8 c] w fun e w'=>e=.returned (.bool (wtI c))/\w'=w:=by
 go_in;go_wp2
 all_goals
  go_ret;exact⟨aC (by rw[Bool.eq_iff_iff];simp[wtI, *]<;>omega),rfl⟩
theorem QB(c:Int)(w:WD):Calls prog 281 #[.int .u8 c] w fun e w'=>e=.returned (.bool (wkI c))/\w'=w:=by
 cases h1:wlI c<;>cases h2:wdI c
 all_goals
  go_in;go_wp2_with(first|(go_at_call 294;refine(mZ _ _).mono ?_;rintro e w' ⟨rfl,rfl⟩)|(go_at_call 295;refine(pW _ _).mono ?_;rintro e w' ⟨rfl,rfl⟩));all_goals
   go_ret;exact⟨aC (by rw[Bool.eq_iff_iff];simp[wkI, *]),rfl⟩
def hexT:BY:=⟨#[48,49,50,51,52,53,54,55,56,57,97,98,99,100,101,102]⟩
theorem afU:∀n:Nat,n<16->hexT.extract n (n+1)=b1 (hexD n):=by decide
theorem MI(n:Nat)(h:n<16)(w:WD):(Instr.slice 9 (.string ⟨#[48,49,50,51,52,53,54,55,56,57,97,98,99,100,101,102]⟩) (some (.int .u8 (n:Int))) (some (.int .u8 ((n:Int)+1))) none).run prog w=.ok (.string (b1 (hexD n))) w:=by rw[run_slice_string_if w 9 _ .u8 .u8 _ _ Tryz.underlying9,if_pos ⟨oo,by show(n:Int)+1<=((16:Nat):Int);omega⟩,if_pos ⟨oo,oo⟩];have:=afU n h;unfold hexT at this;rw[show((n:Int)+1).toNat=n+1 by omega,show((n:Int)).toNat=n by omega,this]
theorem row4(w:WD)(a b c d:BY):(w.alloc (.cells #[.string a,.string b,.string c,.string d] 9)).ownsRow w.heap.size 9 1 (.slice (some ⟨w.heap.size,0,none⟩) 4 4) 4 ([a,b,c,d].map Value.string):=⟨rfl,.inr ⟨w.heap.size,4,_,rfl,Nat.le_refl _,heap_alloc_new w _,Nat.le_refl _,by unfold maxLen;omega,rfl,rfl⟩⟩
theorem row3(w:WD)(a b c:BY):(w.alloc (.cells #[.string a,.string b,.string c] 9)).ownsRow w.heap.size 9 1 (.slice (some ⟨w.heap.size,0,none⟩) 3 3) 3 ([a,b,c].map Value.string):=⟨rfl,.inr ⟨w.heap.size,3,_,rfl,Nat.le_refl _,heap_alloc_new w _,Nat.le_refl _,by unfold maxLen;omega,rfl,rfl⟩⟩
theorem amn(w:WD)(a b c d e:BY):(w.alloc (.cells #[.string a,.string b,.string c,.string d,.string e] 9)).ownsRow w.heap.size 9 1 (.slice (some ⟨w.heap.size,0,none⟩) 5 5) 5 ([a,b,c,d,e].map Value.string):=⟨rfl,.inr ⟨w.heap.size,5,_,rfl,Nat.le_refl _,heap_alloc_new w _,Nat.le_refl _,by unfold maxLen;omega,rfl,rfl⟩⟩
theorem QC(n:Nat)(h:n<16):IntKind.u8.wrap ((n:Int)+1)=(n:Int)+1:=by rw[IntKind.wrap_u8];omega
theorem ZY(c:UInt8)(w:WD):Calls prog 293 #[.int .u8 (c.toNat:Int)] w fun e w'=>e=.returned (.string (KU c))/\Below w.heap.size w w':=by
 have hc:c.toNat<256:=c.toNat_lt;obtain⟨h,Hh⟩:=Nm (c.toNat/16);obtain⟨l,Hl⟩:=Nm (c.toNat%16);have hh:h<16:=by have:=Hh.o;omega
 have hl:l<16:=by have:=Hl.o;omega
 have HE:Hid (KU c=aG [⟨#[92]⟩,b1 (hexD h),b1 (hexD l),⟨#[32]⟩]):=by show _=_;unfold KU;rw[Hh.o,Hl.o];rfl
 have e1:IntKind.u8.wrap ((c.toNat:Int)/16)=(h:Int):=by have:=Hh.o;rw[IntKind.wrap_u8];omega
 have e2:IntKind.u8.wrap ((c.toNat:Int)%16)=(l:Int):=by have:=Hl.o;rw[IntKind.wrap_u8];omega
 have e3:((c.toNat:Int)/16)=(h:Int):=by have:=Hh.o;omega
 have e4:((c.toNat:Int)%16)=(l:Int):=by have:=Hl.o;omega
 have e5:=QC h hh;have e6:=QC l hl;have s1:=MI h hh;have s2:=MI l hl;go_in;go_wp2_with fail;refine wp_region_any An ?_;change wpAny _ _ _ _ _ _ _ (World.drew _);refine FT 0 ?_;refine FT 1 ?_;refine FT 2 ?_;refine FT 3 ?_;refine FT 4 ?_;refine FT 5 ?_;refine FT 6 ?_;refine FT 7 ?_;refine brA 8 fun K hK=>?_;go_simp;refine hK _ _ ?_;clear hK K;refine brA 9 fun K hK=>?_;go_simp;have B1:Hid (Below w.heap.size w ((w.alloc (.cells #[.string ⟨#[92]⟩,.string (b1 (hexD h)),.string (b1 (hexD l)),.string ⟨#[32]⟩] 9)).drew)):=(As.alloc nl _).drew
 have R1:Hid (World.ownsRow ((w.alloc (.cells #[.string ⟨#[92]⟩,.string (b1 (hexD h)),.string (b1 (hexD l)),.string ⟨#[32]⟩] 9)).drew) w.heap.size 9 1 (.slice (some ⟨w.heap.size,0,none⟩) 4 4) 4 ([⟨#[92]⟩,b1 (hexD h),b1 (hexD l),⟨#[32]⟩].map Value.string)):=row4 w ⟨#[92]⟩ (b1 (hexD h)) (b1 (hexD l)) ⟨#[32]⟩;generalize(w.alloc (.cells #[.string ⟨#[92]⟩,.string (b1 (hexD h)),.string (b1 (hexD l)),.string ⟨#[32]⟩] 9)).drew=w2 at *;have hs2:=B1.o.size;refine(dQ [⟨#[92]⟩,b1 (hexD h),b1 (hexD l),⟨#[32]⟩] w.heap.size _ _ R1.o Aa (by show 1+(1+(1+(1+0)))<=_;omega)).mono ?_;rw[<-HE.o];rintro e w5 ⟨rfl,hb5⟩;have B5:=hid (B1.o.trans (hb5.mono hs2));clear hb5;refine hK _ _ ?_;clear hK K;refine brA 10 fun K hK=>?_;go_simp;refine hK _ _ ?_;clear hK K;refine wpAny_done An ?_ _;go_wp2_with fail;go_ret
 exact⟨rfl,B5.o⟩
end Go.Proofs.YtlliliddljkbfaaGreat
namespace Go.Proofs.YtlliliddljkbfaaGreat.Sp
abbrev Stack:=List (Tok×List Nd)
def fin:Stack->List Tok->List Nd
 |[],_=>[]
 |[(_,ins)],ts=>ins++(kids aA ts).1
 |(t,ins)::(t2,Aq)::R,ts=>fin ((t2,Aq++[.mk t (ins++(kids (closing t) ts).1)])::R) (kids (closing t) ts).2
termination_by s=>s.length
def dst:Stack->Nat
 |[]=>0
 |(_,ins)::R=>max (R.length+depth ins) (dst R)
def lQ:Stack->Prop
 |[]=>False
 |[(t,_)]=>closing t=aA
 |(t,_)::r::R=>closing t≠aA/\lQ (r::R)
theorem y8(t:Tok)(ins:List Nd)(ts:List Tok):fin [(t,ins)] ts=ins++(kids aA ts).1:=by unfold fin;rfl
theorem vC(t t2:Tok)(ins Aq:List Nd)(R:Stack)(ts:List Tok):fin ((t,ins)::(t2,Aq)::R) ts=fin ((t2,Aq++[.mk t (ins++(kids (closing t) ts).1)])::R) (kids (closing t) ts).2:=by conv=>lhs;unfold fin
theorem Lc(t:Tok):closing t=aA\/closing t=b1 41\/closing t=b1 93\/closing t=b1 125:=by
 unfold closing;repeat' split
 all_goals simp
theorem QD{t t0:Tok}(h:au t (closing t0)=true)(h0:closing t0≠aA):closing t=aA:=by
 unfold au at h;simp at h;obtain⟨h1,h2⟩:=h;unfold closing;rw[if_neg (by omega),if_pos h1,h2];rcases Lc t0 with e|e|e|e
 .exact absurd e h0
 all_goals rw[e];decide
theorem acd{t:Tok}(h:closing t≠aA)(t0:Tok)(ins:List Nd)(R:Stack)(r:List Tok)(hO:lQ ((t0,ins)::R)):fin ((t,[])::(t0,ins)::R) r=fin ((t0,ins)::R) (t::r):=by
 have hi:inside t r=kids (closing t) r:=by unfold inside;rw[if_neg h]
 rw[vC];have hne:¬(closing t0≠aA/\au t (closing t0)=true):=fun q=>h (QD q.2 q.1);cases R with
 |nil=>rw[y8,y8,iy (fun q=>q.1 rfl),hi];simp
 |cons x R=>obtain⟨t2,Aq⟩:=x;rw[vC,vC,iy hne,hi];simp
theorem Z7{t t0:Tok}(ins:List Nd)(t2:Tok)(Aq:List Nd)(R:Stack)(r:List Tok)(h:au t (closing t0)=true)(h0:closing t0≠aA):fin ((t0,ins)::(t2,Aq)::R) (t::r)=fin ((t2,Aq++[.mk t0 ins])::R) r:=by rw[vC,qX ⟨h0,h⟩];simp
theorem ace{t:Tok}(h:closing t=aA)(t0:Tok)(ins:List Nd)(R:Stack)(r:List Tok)(hn:¬(closing t0≠aA/\au t (closing t0)=true)):fin ((t0,ins++[.mk t []])::R) r=fin ((t0,ins)::R) (t::r):=by
 have hi:inside t r=([],r):=by unfold inside;rw[if_pos h]
 cases R with
 |nil=>rw[y8,y8,iy (fun q=>q.1 rfl),hi];simp
 |cons x R=>obtain⟨t2,Aq⟩:=x;rw[vC,vC,iy hn,hi];simp
theorem afV(t0:Tok)(ins:List Nd)(t2:Tok)(Aq:List Nd)(R:Stack):fin ((t0,ins)::(t2,Aq)::R) []=fin ((t2,Aq++[.mk t0 ins])::R) []:=by rw[vC,jB];simp
theorem Z8(t0:Tok)(ins:List Nd)(t2:Tok)(Aq:List Nd)(R:Stack)(h0:closing t0≠aA):dst ((t2,Aq++[.mk t0 ins])::R)=dst ((t0,ins)::(t2,Aq)::R):=by simp only[dst,Ah,xE (n:=.mk t0 ins) h0,List.length_cons,Nd.BK];omega
theorem acf{t:Tok}(h:closing t=aA)(t0:Tok)(ins:List Nd)(R:Stack):dst ((t0,ins++[.mk t []])::R)=dst ((t0,ins)::R):=by simp only[dst,Ah,Qu (n:=.mk t []) h];omega
theorem acg(t:Tok)(R:Stack):dst ((t,[])::R)=max (dst R) R.length:=by simp only[dst,depth];omega
theorem lQ.ne{S:Stack}(h:lQ S):S≠[]:=by rintro rfl;exact h
theorem lQ.push{S:Stack}(h:lQ S){t:Tok}(ht:closing t≠aA)(ins:List Nd):lQ ((t,ins)::S):=by
 cases S with
 |nil=>exact h.elim
 |cons r R=>exact⟨ht,h⟩
theorem lQ.same{t:Tok}{i j:List Nd}{R:Stack}(h:lQ ((t,i)::R)):lQ ((t,j)::R):=by
 cases R with
 |nil=>exact h
 |cons r R=>exact h
theorem lQ.pop{t t2:Tok}{i i2 j:List Nd}{R:Stack}(h:lQ ((t,i)::(t2,i2)::R)):closing t≠aA/\lQ ((t2,j)::R):=⟨h.1,lQ.same (i:=i2) h.2⟩
theorem Z9(ts:List Tok):fin [(Tok.k 0,[])] ts=nodes ts:=by rw[y8];rfl
end Go.Proofs.YtlliliddljkbfaaGreat.Sp
namespace Go.Proofs.YtlliliddljkbfaaGreat
open Go.Proofs.Tryz (prog)
open Go.RowKit Sp
section
structure Fr where
 tok:Tok
 ins:List Nd
 v:Av
 cs:List Av
def Fr.cells(f:Fr):List Av:=[.int .i64 f.tok.kind,.string f.tok.word,.string f.tok.unit,.string (closing f.tok),f.v]
def BX(base:Nat)(w:WD)(v:Av)(L:List Fr)(b:Nat):Prop:=base<=b/\b<w.heap.size/\some b≠v.ownBlock/\∀f∈L,some b≠f.v.ownBlock
structure vF(base:Nat)(w:WD)(v:Av)(L:List Fr):Prop where
 row:w.ownsRow base 195 5 v L.length (L.flatMap Fr.cells)
 own:∀f∈L,w.ownsRow base 199 4 f.v f.ins.length f.cs
 kid:∀f∈L,tq (BX base w v L) w f.ins f.cs
 ok:∀f∈L,dI f.tok
 dist:L.Pairwise (fun a b=>∀k,a.v.ownBlock=some k->b.v.ownBlock≠some k)
def mM(L:List Fr):Stack:=(L.map (fun f=>(f.tok,f.ins))).reverse
theorem dG(L:List Fr)(f:Fr):mM (L++[f])=(f.tok,f.ins)::mM L:=by simp[mM]
theorem QE(L:List Fr):(mM L).length=L.length:=by simp[mM]
theorem kS(L:List Fr):(L.flatMap Fr.cells).length=L.length*5:=by
 induction L with
 |nil=>rfl
 |cons f r ih=>simp only[List.flatMap_cons,List.length_append,ih,Fr.cells,List.length_cons,List.length_nil];omega
theorem aP{w w':WD}{base e s n:Nat}{v:Av}{xs:List Av}(h:w.ownsRow base e s v n xs)(hw:∀g,v.ownBlock=some g->w'.heap[g]?=w.heap[g]?):w'.ownsRow base e s v n xs:=by
 refine⟨h.1,?_⟩;rcases h.2 with hn|⟨g,cap,cur,rfl,hbg,hgg,rest⟩
 .exact .inl hn
 .exact .inr ⟨g,cap,cur,rfl,hbg,by rw[hw g rfl];exact hgg,rest⟩
section
variable {base:Nat} {w w':WD} {v:Av} {L:List Fr}
theorem vF.keep(h:vF base w v L)(hs:w.heap.size<=w'.heap.size)(hw:∀g,base<=g->g<w.heap.size->w'.heap[g]?=w.heap[g]?):vF base w' v L:=
 ⟨aP h.row fun g hg=>hw g (h.row.lt g hg).1 (h.row.lt g hg).2,
  fun f hf=>aP (h.own f hf) fun g hg=>hw g ((h.own f hf).lt g hg).1 ((h.own f hf).lt g hg).2,
  fun f hf=>(h.kid f hf).keep (fun g hg=>⟨hg.1,by have:=hg.2.1;omega,hg.2.2⟩) fun g hg=>hw g hg.1 hg.2.1,h.ok,h.dist⟩
theorem vF.apart(h:vF base w v L){f:Fr}(hf:f∈L)(k:Nat)(hk:v.ownBlock=some k):f.v.ownBlock≠some k:=ZQ h.row (h.own f hf) Ab k hk
theorem vF.drop{f:Fr}(h:vF base w v (L++[f]))(h6:f.ins.length<=600){g n cap:Nat}(e:v=.slice (some ⟨g,0,none⟩) n cap):
  vF base w (.slice (some ⟨g,0,none⟩) L.length cap) L/\Sl (BX base w (.slice (some ⟨g,0,none⟩) L.length cap) L) w f.v f.ins:=by
 subst e;have hl:=h.row.1;have hrow:w.ownsRow base 195 5 (.slice (some ⟨g,0,none⟩) L.length cap) L.length (L.flatMap Fr.cells):=by
  refine⟨kS L,.inr ?_⟩;rcases h.row.2 with⟨hv,_⟩|⟨g',cap',cur,hv,hbg,hgg,hnc,hcm,hcs,htk⟩
  .cases hv
  .cases hv;refine⟨g,cap,cur,rfl,hbg,hgg,by simp at hnc;omega,hcm,hcs,?_⟩;have h1:(cur.toList.take ((L++[f]).length*5)).take (L.length*5)=cur.toList.take (L.length*5):=by
    rw[List.take_take,Nat.min_eq_left (by simp only[List.length_append,List.length_cons,List.length_nil];omega)]
   rw[<-h1,htk,List.flatMap_append,<-kS L,List.take_left'];rfl
 have hS:∀b,BX base w (.slice (some ⟨g,0,none⟩) n cap) (L++[f]) b->BX base w (.slice (some ⟨g,0,none⟩) L.length cap) L b:=fun b hb=>⟨hb.1,hb.2.1,hb.2.2.1,fun q hq=>hb.2.2.2 q (by simp[hq])⟩;have hdist:=List.pairwise_append.1 h.dist;refine⟨⟨hrow,fun q hq=>h.own q (by simp[hq]),fun q hq=>(h.kid q (by simp[hq])).keep hS fun _ _=>rfl,fun q hq=>h.ok q (by simp[hq]),hdist.1⟩,?_⟩;have ho:=h.own f Aa;have hk:tq (BX base w (.slice (some ⟨g,0,none⟩) L.length cap) L) w f.ins f.cs:=(h.kid f Aa).keep hS fun _ _=>rfl;rcases ho.2 with⟨hv,hn⟩|⟨g',cap',cur,hv,hbg,hgg,hnc,hcm,hcs,htk⟩
 .have:f.ins=[]:=List.eq_nil_of_length_eq_zero hn;rw[hv,this];exact Sl.nil _ _
 .rw[hv];have hf1:some g'≠Value.ownBlock (.slice (some ⟨g,0,none⟩) L.length cap):=by
   intro e;have:=h.apart (f:=f) Aa g rfl;rw[hv]at this;exact this (by rw[show Value.ownBlock (.slice (some ⟨g,0,none⟩) L.length cap)=some g from rfl]at e;cases e;rfl)
  have hf2:∀q∈L,some g'≠q.v.ownBlock:=by intro q hq e;exact hdist.2.2 q hq f Aa g' e.symm (by rw[hv];rfl)
  refine⟨_,cap',rfl,⟨hnc,h6⟩,fun _=>⟨g',0,rfl,tq.lies ⟨hbg,(Ax hgg),hf1,hf2⟩ f.ins f.cs 0 hk fun j u hu=>?_⟩⟩;have:=ho.cells (g:=g') (by rw[hv];rfl) j u hu;rw[Addr.add_lit,Nat.zero_add]at this;rw[Nat.zero_add];exact this
theorem vF.push(h:vF base w v L)(t:Tok)(ht:dI t){v2:Av}
  (hrow:w'.ownsRow base 195 5 v2 (L.length+1) (L.flatMap Fr.cells++[.int .i64 t.kind,.string t.word,.string t.unit,.string (closing t),.slice none 0 0]))
  (hs:w.heap.size<=w'.heap.size) (hw:∀g,g<w.heap.size->some g≠v.ownBlock->w'.heap[g]?=w.heap[g]?) (hat:v2.ownBlock=v.ownBlock\/∃b,v2.ownBlock=some b/\w.heap.size<=b):
  vF base w' v2 (L++[⟨t,[],.slice none 0 0,[]⟩]):=by
 have hnv:∀g,g<w.heap.size->some g≠v.ownBlock->some g≠v2.ownBlock:=by
  intro g hg h1;rcases hat with e|⟨b,e,hb⟩
  .rw[e];exact h1
  .rw[e];intro e2;cases e2;omega
 have hS:∀b,BX base w v L b->BX base w' v2 (L++[⟨t,[],.slice none 0 0,[]⟩]) b:=fun b hb=>⟨hb.1,by have:=hb.2.1;omega,hnv b hb.2.1 hb.2.2.1,fun q hq=>by
  rcases List.mem_append.1 hq with h1|h1
  .exact hb.2.2.2 q h1
  .rw[List.mem_singleton.1 h1];simp[Value.ownBlock]⟩
 have hnew:∀q∈L++[(⟨t,[],.slice none 0 0,[]⟩:Fr)],q∈L\/q=⟨t,[],.slice none 0 0,[]⟩:=fun q hq=>by simpa using hq
 refine⟨?_,fun q hq=>?_,fun q hq=>?_,fun q hq=>?_,?_⟩
 .rw[List.length_append,List.flatMap_append];simpa[Fr.cells]using hrow
 .rcases hnew q hq with h1|rfl
  .exact aP (h.own q h1) fun g hg=>hw g ((h.own q h1).lt g hg).2 fun e=>h.apart h1 g e.symm hg
  .exact World.ownsRow_nil _ _ _ _
 .rcases hnew q hq with h1|rfl
  .exact(h.kid q h1).keep hS fun g hg=>hw g hg.2.1 hg.2.2.1
  .rfl
 .rcases hnew q hq with h1|rfl
  .exact h.ok q h1
  .exact ht
 .refine List.pairwise_append.2 ⟨h.dist,by simp,fun a _ b hb k _=>?_⟩;rw[List.mem_singleton.1 hb];simp[Value.ownBlock]
theorem afW(xs:List Av)(k:Nat)(hk:xs.length=k*5)(a b c d e e2:Av):(xs++[a,b,c,d,e]).set (k*5+4) e2=xs++[a,b,c,d,e2]:=by rw[<-hk,List.set_append_right _ _ oo];simp
theorem vF.grow{f:Fr}(h:vF base w v (L++[f])){n:Nd}{kv:Av}(hk:Sl (BX base w v (L++[f])) w kv n.kids/\dI n.t){v2:Av}{cs2:List Av}
  (hcs:cs2=f.cs++[.int .i64 n.t.kind,.string n.t.word,.string n.t.unit,kv])
  (hown:w'.ownsRow base 199 4 v2 (f.ins.length+1) cs2)
  (hrow:w'.ownsRow base 195 5 v (L.length+1) (L.flatMap Fr.cells++[.int .i64 f.tok.kind,.string f.tok.word,.string f.tok.unit,.string (closing f.tok),v2]))
  (hs:w.heap.size<=w'.heap.size) (hw:∀g,g<w.heap.size->some g≠v.ownBlock->some g≠f.v.ownBlock->w'.heap[g]?=w.heap[g]?) (hat:v2.ownBlock=f.v.ownBlock\/∃b,v2.ownBlock=some b/\w.heap.size<=b):
  vF base w' v (L++[⟨f.tok,f.ins++[n],v2,cs2⟩]):=by
 subst hcs;have hdist:=List.pairwise_append.1 h.dist;have hn2:∀g,g<w.heap.size->some g≠f.v.ownBlock->some g≠v2.ownBlock:=by
  intro g hg h1;rcases hat with e|⟨b,e,hb⟩
  .rw[e];exact h1
  .rw[e];intro e2;cases e2;omega
 have hS:∀b,BX base w v (L++[f]) b->BX base w' v (L++[⟨f.tok,f.ins++[n],v2,f.cs++[.int .i64 n.t.kind,.string n.t.word,.string n.t.unit,kv]⟩]) b:=fun b hb=>⟨hb.1,by have:=hb.2.1;omega,hb.2.2.1,fun q hq=>by
  rcases List.mem_append.1 hq with h1|h1
  .exact hb.2.2.2 q (by simp[h1])
  .rw[List.mem_singleton.1 h1];exact hn2 b hb.2.1 (hb.2.2.2 f Aa)⟩
 have hW:∀g,BX base w v (L++[f]) g->w'.heap[g]?=w.heap[g]?:=fun g hg=>hw g hg.2.1 hg.2.2.1 (hg.2.2.2 f Aa);have hnew:∀q∈L++[(⟨f.tok,f.ins++[n],v2,f.cs++[.int .i64 n.t.kind,.string n.t.word,.string n.t.unit,kv]⟩:Fr)],q∈L\/q=⟨f.tok,f.ins++[n],v2,f.cs++[.int .i64 n.t.kind,.string n.t.word,.string n.t.unit,kv]⟩:=fun q hq=>by simpa using hq
 refine⟨?_,fun q hq=>?_,fun q hq=>?_,fun q hq=>?_,?_⟩
 .rw[List.length_append,List.flatMap_append];simpa[Fr.cells]using hrow
 .rcases hnew q hq with h1|rfl
  .exact aP (h.own q (by simp[h1])) fun g hg=>hw g ((h.own q (by simp[h1])).lt g hg).2 (fun e=>h.apart (f:=q) (by simp[h1]) g e.symm hg) (fun e=>hdist.2.2 q h1 f Aa g hg e.symm)
  .simpa using hown
 .rcases hnew q hq with h1|rfl
  .exact(h.kid q (by simp[h1])).keep hS hW
  .exact tq.snoc _ _ ((h.kid f Aa).keep hS hW) n kv ⟨hk.1.keep hS hW,hk.2⟩
 .rcases hnew q hq with h1|rfl
  .exact h.ok q (by simp[h1])
  .exact h.ok f Aa
 .refine List.pairwise_append.2 ⟨hdist.1,by simp,fun a ha b hb k hk=>?_⟩;rw[List.mem_singleton.1 hb];have:=((h.own a (by simp[ha])).lt k hk).2;rcases hat with e|⟨b',e,hb'⟩
  .show v2.ownBlock≠some k;rw[e];exact hdist.2.2 a ha f Aa k hk
  .show v2.ownBlock≠some k;rw[e];intro e2;cases e2;omega
theorem vF.put{f:Fr}(h:vF base w v (L++[f])){g co:Nat}(e:v=.slice (some ⟨g,0,none⟩) (L.length+1) co)(n:Nd)(kv:Av)(hk:Sl (BX base w v (L++[f])) w kv n.kids/\dI n.t){W w4:WD}{gv vc:Nat}{z0 z1 z2 z3:Av}
  (hWs:w.heap.size<=W.heap.size) (hW:∀k,k<w.heap.size->W.heap[k]?=w.heap[k]?)
  (hown:w4.ownsRow base 199 4 (.slice (some ⟨gv,0,none⟩) (f.ins.length+1) vc) (f.ins.length+1) (f.cs++[z0,z1,z2,z3])) (hgr:W.grownBy w4 f.v.ownBlock) (hat:some gv=f.v.ownBlock\/some gv=some W.heap.size):
  vF base (((((w4.setCell ⟨g,L.length*5+4,none⟩ (.slice (some ⟨gv,0,none⟩) (f.ins.length+1) vc)).setCell ⟨gv,f.ins.length*4,none⟩ (.int .i64 n.t.kind)).setCell ⟨gv,f.ins.length*4+1,none⟩ (.string n.t.word)).setCell ⟨gv,f.ins.length*4+2,none⟩ (.string n.t.unit)).setCell ⟨gv,f.ins.length*4+3,none⟩ kv)
   v (L++[⟨f.tok,f.ins++[n],.slice (some ⟨gv,0,none⟩) (f.ins.length+1) vc,f.cs++[.int .i64 n.t.kind,.string n.t.word,.string n.t.unit,kv]⟩]):=by
 have hap:some g≠f.v.ownBlock:=fun e2=>h.apart (f:=f) Aa g (by rw[e];rfl) e2.symm;have hgo:=h.row.lt g (by rw[e];rfl);have hrow0:w.ownsRow base 195 5 v (L.length+1) (L.flatMap Fr.cells++[.int .i64 f.tok.kind,.string f.tok.word,.string f.tok.unit,.string (closing f.tok),f.v]):=by have:=h.row;rw[List.length_append,List.flatMap_append]at this;simpa[Fr.cells]using this
 have amo:=aP (w':=W) hrow0 fun k hk=>hW k (hrow0.lt k hk).2;have row4:=amo.kept hgr (.inr (by rw[e];exact hap));have hcl:f.cs.length=f.ins.length*4:=(h.own f Aa).1;have hs:=hgr.size;have hne:gv≠g:=by
  rintro rfl;rcases hat with e2|e2
  .exact hap e2
  .cases e2;omega
 subst e;obtain⟨s5,g5⟩:=row4.stored (L.length*5+4) (.slice (some ⟨gv,0,none⟩) (f.ins.length+1) vc);have o5:=hown.kept g5 (.inr (by simp[Value.ownBlock];exact hne));obtain⟨o6,g6⟩:=o5.stored (f.ins.length*4) (.int .i64 n.t.kind);obtain⟨o7,g7⟩:=o6.stored (f.ins.length*4+1) (.string n.t.word);obtain⟨o8,g8⟩:=o7.stored (f.ins.length*4+2) (.string n.t.unit);obtain⟨o9,g9⟩:=o8.stored (f.ins.length*4+3) kv;rw[ab4 _ _ hcl]at o9;rw[afW _ _ (kS L)]at s5;have hro:Value.ownBlock (.slice (some ⟨g,0,none⟩) (L.length+1) co)≠some gv:=by simp[Value.ownBlock];exact fun e=>hne e.symm
 have s9:=(((s5.kept g6 (.inr hro)).kept g7 (.inr hro)).kept g8 (.inr hro)).kept g9 (.inr hro);have hz5:=g5.size;have hz6:=g6.size;have hz7:=g7.size;have hz8:=g8.size;have hz9:=g9.size;refine h.grow hk rfl o9 s9 oo (fun k hk h2 h1=>?_) ?_
 .have hgg:some k≠some gv:=by
   rcases hat with e2|e2
   .rw[e2];exact h1
   .cases e2;intro e3;cases e3;omega
  rw[g9.block k oo hgg,g8.block k oo hgg,g7.block k oo hgg,g6.block k oo hgg,g5.block k oo h2,hgr.block k oo h1,hW k hk]
 .rcases hat with e2|e2
  .exact .inl e2
  .cases e2;exact .inr ⟨_,rfl,hWs⟩
end
theorem Ou(w:WD){a b:Addr}(h:a.block≠b.block)(x y:Av):(w.setCell a x).setCell b y=(w.setCell b y).setCell a x:=by
 unfold World.setCell;simp only;congr 1
 apply Array.ext_getElem?
 intro i;simp only[Array.getElem?_modify];by_cases h1:a.block=i
 .have h2:¬b.block=i:=fun e=>h (h1.trans e.symm);simp[h1,h2]
 .simp[h1]
end
def bt(s:BY)(k:Nat):UInt8:=if h:k<s.size then s[k] else 0
theorem MJ{s:BY}{k:Nat}(h:k<s.size):bt s k=s[k]:=by unfold bt;rw[dif_pos h]
theorem Ie{s:BY}{k:Nat}(h:k<s.size):pk s k=((bt s k).toNat:Int):=by rw[MJ h];unfold pk;rw[dif_pos h]
def zO(ok:Nat->Bool)(s:BY):Nat->List BY
 |0=>[]
 |k+1=>zO ok s k++[if ok k=true then b1 (bt s k) else KU (bt s k)]
theorem afX(ok:Nat->Bool)(s:BY)(k:Nat):(zO ok s k).length=k:=by
 induction k with
 |zero=>rfl
 |succ k ih=>simp[zO,ih]
theorem Ej(ok:Nat->Bool)(s:BY)(k:Nat):total (zO ok s k)<=4*k:=by
 induction k with
 |zero=>simp[zO,total]
 |succ k ih=>
  unfold zO;rw[dh];have:(if ok k=true then b1 (bt s k) else KU (bt s k)).size<=4:=by
   split
   .show 1<=4;omega
   .show 4<=4;omega
  simp only[total];omega
theorem mO(a:BY):a++aA=a:=by
 apply ByteArray.ext
 rw[ByteArray.data_append];simp[aA]
theorem Ig(ok:Nat->Bool)(s:BY)(k:Nat):zO ok s (k+1)=zO ok s k++[if ok k=true then b1 (bt s k) else KU (bt s k)]:=rfl
theorem ach(ok:Nat->UInt8->Bool)(s:BY):∀(n k:Nat),k+n=s.size->aG (zO (fun i=>ok i (bt s i)) s k)++BP ok k (s.data.toList.drop k)=aG (zO (fun i=>ok i (bt s i)) s s.size):=by
 intro n;induction n with
 |zero=>intro k h;have:k=s.size:=oo;subst this;rw[List.drop_of_length_le (by rw[Array.length_toList];exact Nat.le_refl _)];show aG _++aA=_;exact mO _
 |succ n ih=>
  intro k h;have hk:k<s.data.toList.length:=by simp only[Array.length_toList];show k<s.size;omega
  rw[List.drop_eq_getElem_cons hk];have hb:s.data.toList[k]=bt s k:=by rw[MJ (show k<s.size by omega)];rfl
  rw[hb];unfold BP;have:=ih (k+1) oo;rw[Ig,dw,ByteArray.append_assoc]at this;exact this
theorem Cb(ok:Nat->UInt8->Bool)(s:BY):BP ok 0 s.data.toList=aG (zO (fun i=>ok i (bt s i)) s s.size):=by have:=ach ok s s.size 0 oo;simpa[zO,aG]using this
theorem aiT{s:BY}{k:Nat}(h:k<s.size):one s k=b1 (bt s k):=by
 rw[MJ h];unfold one b1;apply ByteArray.ext
 rw[ByteArray.data_extract];apply Array.ext
 .simp;omega
 .intro i h1 h2;simp at h2;subst h2;simp;rfl
theorem vG(s:BY)(g:Nat)(cs:Array Av)(ok:Nat->Bool)(w:WD)(hs:s.size<=4000000)
  (hg:∀(args:Array Av) (w:WD),(callFunc g args).run prog w=.ok (.enter g args) w)
  (hf:∀i,i<s.size->∀w',Below w.heap.size w w'->Calls prog g (#[.int .i64 (i:Int)]++cs) w' fun ex w''=>ex=.returned (.bool (ok i))/\Below w'.heap.size w' w''):
  Calls prog 249 #[.string s,.func (.func g) #[] cs] w fun e w'=>e=.returned (.string (aG (zO ok s s.size)))/\Below w.heap.size w w':=by
 have HF:=hid hf;clear hf;obtain⟨iS,wK⟩:=info_str;have HI:=hid wK;clear wK;go_in;go_wp2_with fail;go_loopg[5,9] s.size (fun gg v5 v wr=>∃(u:Av) (k:Nat),u=v5/\k+gg=s.size/\v=.int .i64 (k:Int)/\Aside (wr.ownsRow w.heap.size 9 1 u k ((zO ok s k).map Value.string)/\Below w.heap.size w wr));case atStart=>exact⟨_,0,rfl,oo,rfl,World.ownsRow_nil _ _ _ _,As⟩
 case round=>
  obtain⟨u,k,rfl,hk,rfl,hA⟩:=hrel;have O1:=hid hA.o.1;have B1:=hid hA.o.2;clear hA;have hsz:=B1.o.size;by_cases hlt:k<s.size
  .have h1:(k:Int)<(s.size:Int):=oo;have hc:=HF.o k hlt wr B1.o;have HC:=hid hc;clear hc;have hw1:IntKind.i64.wrap ((k:Int)+1)=(k:Int)+1:=by rw[IntKind.wrap_i64];omega
   have hsl:=aiS s k hlt;rw[aiT hlt]at hsl;have hix:=gQ s k hlt;rw[Ie hlt]at hix;go_wp2_with fail;refine HC.o.mono ?_;obtain⟨b,Hb⟩:=Nm (ok k);rw[Hb.o];rintro e w1 ⟨rfl,hb1⟩;have B2:=hid (B1.o.trans (hb1.mono hsz));have O2:Hid (w1.ownsRow w.heap.size 9 1 u k ((zO ok s k).map Value.string)):=aP O1.o fun r hr=>hb1.block r (O1.o.lt r hr).2;have hsz2:=B2.o.size;clear hb1;cases b;focus
    go_wp2_with fail;refine pmb (ZY (bt s k) _) fun w2 hb2=>?_;have B3:=hid (B2.o.trans (hb2.mono hsz2));have O3:Hid (w2.ownsRow w.heap.size 9 1 u k ((zO ok s k).map Value.string)):=aP O2.o fun r hr=>hb2.block r (O2.o.lt r hr).2;have hsz3:=B3.o.size;clear hb2;have HP:Hid (zO ok s (k+1)=zO ok s k++[KU (bt s k)]):=by show _=_;rw[Ig,Hb.o];rfl
    go_wp2_with(at_builtin;go_must(refine wpList_append_own _ rfl _ _ 26 rfl w.heap.size 9 iS (.string ⟨#[]⟩) 1 16 Tryz.underlying26 HI.o.1 HI.o.2.1 HI.o.2.2.1 HI.o.2.2.2 rfl oo u k ((zO ok s k).map Value.string) rfl (O3.o.alloc _) ⟨w2.heap.size,0,none⟩ 1 1 [.string (KU (bt s k))] rfl rfl (cell_one_new _ _ _) (aT _) Ao oo Al ?_));intro v4 w4 hown4 dS _;have O4:Hid (w4.ownsRow w.heap.size 9 1 v4 (k+1) ((zO ok s (k+1)).map Value.string)):=by show World.ownsRow _ _ _ _ _ _ _;rw[HP.o,List.map_append];exact hown4
    have B4:Hid (Below w.heap.size w w4):=(B3.o.alloc hsz3 _).grown dS Al (fun rr hr=>(O3.o.lt rr hr).1)
   rotate_left;focus
    have HP:Hid (zO ok s (k+1)=zO ok s k++[b1 (bt s k)]):=by show _=_;rw[Ig,Hb.o];rfl
    go_wp2_with(at_builtin;go_must(refine wpList_append_own _ rfl _ _ 26 rfl w.heap.size 9 iS (.string ⟨#[]⟩) 1 16 Tryz.underlying26 HI.o.1 HI.o.2.1 HI.o.2.2.1 HI.o.2.2.2 rfl oo u k ((zO ok s k).map Value.string) rfl (O2.o.alloc _) ⟨w1.heap.size,0,none⟩ 1 1 [.string (b1 (bt s k))] rfl rfl (cell_one_new _ _ _) (aT _) Ao oo Al ?_));intro v4 w4 hown4 dS _;have O4:Hid (w4.ownsRow w.heap.size 9 1 v4 (k+1) ((zO ok s (k+1)).map Value.string)):=by show World.ownsRow _ _ _ _ _ _ _;rw[HP.o,List.map_append];exact hown4
    have B4:Hid (Below w.heap.size w w4):=(B2.o.alloc hsz2 _).grown dS Al (fun rr hr=>(O2.o.lt rr hr).1)
   rotate_left;all_goals
    clear hown4 dS;go_wp2_with fail;go_roundg(gk-1);case measure=>omega
    case rel=>exact⟨v4,k+1,rfl,oo,by congr 1,O4.o,B4.o⟩
  .have h1:(s.size:Int)<=(k:Int):=oo;have hke:k=s.size:=oo;subst hke;have hpt:=Ej ok s s.size;have hpl:=afX ok s s.size;have O5:Hid (wr.ownsRow w.heap.size 9 1 u (zO ok s s.size).length ((zO ok s s.size).map Value.string)):=by show World.ownsRow _ _ _ _ _ _ _;rw[hpl];exact O1.o
   go_wp2_with fail;refine pmb (dQ (zO ok s s.size) w.heap.size u _ O5.o oo oo) fun w5 hb5=>?_;have B5:=hid (B1.o.trans (hb5.mono hsz));clear hb5;go_wp2_with fail;go_ret;exact⟨rfl,B5.o⟩
def bU(w:WD)(b:Nat)(v:Av)(T:TypeId):Prop:=w.heap[b]?=some (.cells #[v] T (0,0))
theorem bU.c{w:WD}{b:Nat}{v:Av}{T:TypeId}(h:bU w b v T):w.cell? ⟨b,0,none⟩=some v:=by unfold World.cell?;rw[show w.heap[b]?=_ from h];rfl
theorem bU.lt{w:WD}{b:Nat}{v:Av}{T:TypeId}(h:bU w b v T):b<w.heap.size:=(Ax h)
theorem bU.below{w w':WD}{b:Nat}{v:Av}{T:TypeId}{g:Nat}(h:bU w b v T)(hb:Below g w w')(hg:b<g):bU w' b v T:=by unfold bU;rw[hb.block _ hg];exact h
theorem bU.new(w:WD)(v:Av)(T:TypeId):bU (w.alloc (.cells #[v] T)) w.heap.size v T:=heap_alloc_new w _
theorem bU.alloc{w:WD}{b:Nat}{v:Av}{T:TypeId}(h:bU w b v T)(o:Obj):bU (w.alloc o) b v T:=by unfold bU;rw[Below.heap_alloc _ _ _ h.lt];exact h
theorem nI:∀(fn:Fn) (first cap:Array Av) (w:WD),(Instr.makeFunc fn first cap).run prog w=.ok (.func fn first cap) w:=fun _ _ _ _=>rfl
def pnI(c:Int)(i:Nat)(p0:Int)(n:Nat):Bool:=if (wlI c||c==95)=true then true else if (c==45)=true then decide (1<n) else if wdI c=true then(decide (1<i)||(i==1&&!(p0==45))) else false
theorem aiU{s:BY}{i:Nat}(h:i<s.size):pnI (pk s i) i (pk s 0) s.size=dZ s i (bt s i):=by
 rw[Ie h];unfold pnI dZ;rw[aii,aij,<-show(bt s i==95)=(((bt s i).toNat:Int)==95) from tZ _ 95 oo,<-show(bt s i==45)=(((bt s i).toNat:Int)==45) from tZ _ 45 oo];generalize bt s i=c at *;by_cases h1:c=45
 .subst h1;have e1:oU 45=false:=by decide
  have e2:oV 45=false:=by decide
  rw[e1,e2];simp;rw[Bool.eq_iff_iff];simp;omega
 .have h1':(c==45)=false:=by simpa using h1
  rw[h1'];cases hd:oV c
  .cases hl:oU c<;>cases h5:(c==95)<;>simp[h1]
  .have hl:oU c=false:=by
    unfold oV at hd;unfold oU;rw[Bool.eq_false_iff];simp at *;omega
   have h5:(c==95)=false:=by unfold oV at hd;rw[beq_eq_false_iff_ne];rintro rfl;simp at hd
   rw[hl,h5];simp;generalize pk s 0=q;rw[Bool.eq_iff_iff];simp;omega
theorem Fj(s:BY)(i:Nat)(w:WD)(hi:i<s.size)(hs:s.size<=4000000):
  Calls prog 251 #[.string s,.int .i64 (i:Int)] w fun e w'=>e=.returned (.bool (dZ s i (bt s i)))/\w'=w:=by
 rw[<-aiU hi];have hix:=gQ s i hi;have hix0:=gQ s 0 oo;have h0:(i:Int)<(s.size:Int):=oo;have h00:(0:Int)<(s.size:Int):=oo;obtain⟨c,Hc⟩:=Nm (pk s i);obtain⟨q,Hq⟩:=Nm (pk s 0);rw[Hc.o]at hix⊢;rw[Hq.o]at hix0⊢;have E0:∀h:0<s.size,((s[0]'h).toNat:Int)=q:=fun h=>by rw[<-Hq.o,Ie h,MJ h]
 have HE0:=hid E0;clear Hc Hq E0;have HD:Hid (pnI c i q s.size=if (wlI c||c==95)=true then true else if (c==45)=true then decide (1<s.size) else if wdI c=true then(decide (1<i)||(i==1&&!(q==45))) else false):=rfl;cases h1:wlI c
 .cases h2:(c==95)
  .cases h3:(c==45)
   .cases h4:wdI c
    .have HV:Hid (pnI c i q s.size=false):=by show _=_;rw[HD.o,h1,h2,h3,h4];rfl
     go_in;go_wp2_with(first|(go_at_call 294;refine(mZ _ _).mono ?_;rintro e w' ⟨rfl,rfl⟩)|(go_at_call 295;refine(pW _ _).mono ?_;rintro e w' ⟨rfl,rfl⟩));go_ret;exact⟨aC HV.o.symm,rfl⟩
    .have HV:Hid (pnI c i q s.size=(decide (1<i)||(i==1&&!(q==45)))):=by show _=_;rw[HD.o,h1,h2,h3,h4];rfl
     by_cases h5:1<i
     .have h5':(1:Int)<(i:Int):=oo;have HW:Hid (pnI c i q s.size=true):=by show _=_;rw[HV.o,decide_eq_true h5];rfl
      go_in;go_wp2_with(first|(go_at_call 294;refine(mZ _ _).mono ?_;rintro e w' ⟨rfl,rfl⟩)|(go_at_call 295;refine(pW _ _).mono ?_;rintro e w' ⟨rfl,rfl⟩));go_ret;exact⟨aC HW.o.symm,rfl⟩
     .have h5':(i:Int)<=1:=oo;by_cases h6:i=1
      .have h6':((i:Int)==1)=true:=by simp;omega
       have HW:Hid (pnI c i q s.size = !(q==45)):=by show _=_;rw[HV.o,decide_eq_false h5,h6];rfl
       clear h6 h5;go_in;go_wp2_with(first|(go_at_call 294;refine(mZ _ _).mono ?_;rintro e w' ⟨rfl,rfl⟩)|(go_at_call 295;refine(pW _ _).mono ?_;rintro e w' ⟨rfl,rfl⟩));go_ret;exact⟨aC (by rw[HW.o,decide_eq_false oo,HE0.o oo];rfl),rfl⟩
      .have h6':((i:Int)==1)=false:=by simp;omega
       have HW:Hid (pnI c i q s.size=false):=by show _=_;rw[HV.o,decide_eq_false h5,show(i==1)=false by simpa using h6];rfl
       go_in;go_wp2_with(first|(go_at_call 294;refine(mZ _ _).mono ?_;rintro e w' ⟨rfl,rfl⟩)|(go_at_call 295;refine(pW _ _).mono ?_;rintro e w' ⟨rfl,rfl⟩));go_ret;exact⟨aC (by rw[HW.o,decide_eq_false oo]),rfl⟩
   .have HV:Hid (pnI c i q s.size=decide ((1:Int)<(s.size:Int))):=by show _=_;rw[HD.o,h1,h2,h3];simp;omega
    go_in;go_wp2_with(first|(go_at_call 294;refine(mZ _ _).mono ?_;rintro e w' ⟨rfl,rfl⟩)|(go_at_call 295;refine(pW _ _).mono ?_;rintro e w' ⟨rfl,rfl⟩));go_ret;exact⟨aC HV.o.symm,rfl⟩
  .have HV:Hid (pnI c i q s.size=true):=by show _=_;rw[HD.o,h1,h2];rfl
   go_in;go_wp2_with(first|(go_at_call 294;refine(mZ _ _).mono ?_;rintro e w' ⟨rfl,rfl⟩)|(go_at_call 295;refine(pW _ _).mono ?_;rintro e w' ⟨rfl,rfl⟩));go_ret;exact⟨aC HV.o.symm,rfl⟩
 .have HV:Hid (pnI c i q s.size=true):=by show _=_;rw[HD.o,h1];rfl
  go_in;go_wp2_with(first|(go_at_call 294;refine(mZ _ _).mono ?_;rintro e w' ⟨rfl,rfl⟩)|(go_at_call 295;refine(pW _ _).mono ?_;rintro e w' ⟨rfl,rfl⟩));go_ret;exact⟨aC HV.o.symm,rfl⟩
theorem afY(s:BY)(i b:Nat)(w:WD)(hi:i<s.size)(hs:s.size<=4000000)(hb:bU w b (.string s) 9):
  Calls prog 250 #[.int .i64 (i:Int),.pointer (some ⟨b,0,none⟩)] w fun e w'=>e=.returned (.bool (dZ s i (bt s i)))/\Below w.heap.size w w':=by
 have c0:=hb.c;go_in;go_wp2_with fail;refine pmb (Fj s i _ hi hs) fun wq hwq=>?_;rw[hwq];go_wp2_with fail;go_ret;exact⟨rfl,As⟩
theorem afZ(s:BY)(i b:Nat)(w:WD)(hi:i<s.size)(hb:bU w b (.string s) 9):
  Calls prog 277 #[.int .i64 (i:Int),.pointer (some ⟨b,0,none⟩)] w fun e w'=>e=.returned (.bool (jO (bt s i)))/\Below w.heap.size w w':=by
 have c0:=hb.c;have hix:=gQ s i hi;rw[Ie hi]at hix;have h0:(i:Int)<(s.size:Int):=oo;rw[<-akM];go_in;go_wp2_with fail;refine pmb (QA _ _) fun wq hwq=>?_;rw[hwq];go_wp2_with fail;go_ret;exact⟨rfl,As⟩
theorem af0(s:BY)(i b:Nat)(w:WD)(hi:i<s.size)(hb:bU w b (.string s) 9):
  Calls prog 280 #[.int .i64 (i:Int),.pointer (some ⟨b,0,none⟩)] w fun e w'=>e=.returned (.bool (xH (bt s i)))/\Below w.heap.size w w':=by
 have c0:=hb.c;have hix:=gQ s i hi;rw[Ie hi]at hix;have h0:(i:Int)<(s.size:Int):=oo;rw[<-akN];go_in;go_wp2_with fail;refine pmb (QB _ _) fun wq hwq=>?_;rw[hwq];go_wp2_with fail;go_ret;exact⟨rfl,As⟩
theorem oW(s:BY)(w:WD)(hs:s.size<=4000000):Calls prog 190 #[.string s] w fun e w'=>e=.returned (.string (dP s))/\Below w.heap.size w w':=by
 have hmf:=nI;have V1:Hid (bU (w.alloc (.cells #[.string s] 9)) w.heap.size (.string s) 9):=bU.new _ _ _;have B1:Hid (Below w.heap.size w (w.alloc (.cells #[.string s] 9))):=As.alloc nl _;have c0:=V1.o.c;have HV:Hid (dP s=aG (zO (fun i=>dZ s i (bt s i)) s s.size)):=Cb _ s;go_in;go_wp2_with fail;generalize w.alloc (.cells #[.string s] 9)=w2 at *;refine(vG s _ _ (fun i=>dZ s i (bt s i)) w2 hs (fun _ _=>rfl) ?_).mono ?_
 .intro i hi w' hb';exact afY s i _ w' hi hs (V1.o.below hb' V1.o.lt)
 .rintro e wq ⟨rfl,hwq⟩;have B3:=hid (Ay B1.o hwq);clear hwq;go_wp2_with fail;go_ret;exact⟨by rw[HV.o];rfl,B3.o⟩
theorem aci(s:BY)(w:WD)(hs:s.size<=4000000):Calls prog 229 #[.string s] w fun e w'=>e=.returned (.string (xG s))/\Below w.heap.size w w':=by
 have hmf:=nI;have V1:Hid (bU (w.alloc (.cells #[.string s] 9)) w.heap.size (.string s) 9):=bU.new _ _ _;have B1:Hid (Below w.heap.size w (w.alloc (.cells #[.string s] 9))):=As.alloc nl _;have c0:=V1.o.c;obtain⟨m,Hm⟩:=Nm (aG (zO (fun i=>jO (bt s i)) s s.size));have HV:Hid (xG s=aG [⟨#[34]⟩,m,⟨#[34]⟩]):=by show _=_;unfold xG;rw[Cb,Hm.o];simp[aG,aiR,b1]
 have hms:m.size<=16000000:=by rw[<-Hm.o,oQ];have:=Ej (fun i=>jO (bt s i)) s s.size;omega
 go_in;go_wp2_with fail;generalize w.alloc (.cells #[.string s] 9)=w2 at *;refine(vG s _ _ (fun i=>jO (bt s i)) w2 hs (fun _ _=>rfl) ?_).mono ?_
 .intro i hi w' hb';exact afZ s i _ w' hi (V1.o.below hb' V1.o.lt)
 .rw[Hm.o];rintro e wq ⟨rfl,hwq⟩;have B3:=hid (Ay B1.o hwq);have hs3:=B3.o.size;clear hwq c0;go_wp2_with fail;refine pmb (dQ [⟨#[34]⟩,m,⟨#[34]⟩] wq.heap.size _ _ (row3 wq ⟨#[34]⟩ m ⟨#[34]⟩) Aa (by show 1+(m.size+(1+0))<=_;omega)) fun w5 hb5=>?_;have B5:Hid (Below w.heap.size w w5):=(B3.o.alloc hs3 _).trans (hb5.mono Al);clear hb5;go_wp2_with fail;go_ret;exact⟨by rw[HV.o];rfl,B5.o⟩
def Fp(s:BY)(i:Nat):Bool:=dZ s i (bt s i)&&!(i==0&&(bt s i==101||bt s i==69))
theorem af2(s:BY)(i b:Nat)(w:WD)(hi:i<s.size)(hs:s.size<=4000000)(hb:bU w b (.string s) 9):
  Calls prog 279 #[.int .i64 (i:Int),.pointer (some ⟨b,0,none⟩)] w fun e w'=>e=.returned (.bool (Fp s i))/\Below w.heap.size w w':=by
 have c0:=hb.c;have hix:=gQ s i hi;rw[Ie hi]at hix;have h0:(i:Int)<(s.size:Int):=oo;have HU:Hid (Fp s i=(dZ s i (bt s i)&&!(i==0&&(((bt s i).toNat:Int)==101||((bt s i).toNat:Int)==69)))):=by show _=_;unfold Fp;rw[show(bt s i==101)=(((bt s i).toNat:Int)==101) from tZ _ 101 oo,show(bt s i==69)=(((bt s i).toNat:Int)==69) from tZ _ 69 oo]
 obtain⟨z,Hz⟩:=Nm (dZ s i (bt s i));rw[Hz.o]at HU;have hpn:=Fj s i w hi hs;rw[Hz.o]at hpn;have HPN:=hid hpn;clear hpn hb;obtain⟨c,Hc⟩:=Nm (((bt s i).toNat:Int));rw[Hc.o]at HU hix;cases z
 .have HV:Hid (Fp s i=false):=HU.o;go_in;go_wp2_with fail;refine HPN.o.mono ?_;rintro e wq ⟨rfl,hwq⟩;rw[hwq];go_wp2_with fail;go_ret;exact⟨aC HV.o.symm,As⟩
 .by_cases h1:i=0
  .subst h1;have HV:Hid (Fp s 0=(((s[0]'hi).toNat:Int) != 101&&((s[0]'hi).toNat:Int) != 69)):=by
    show _=_;rw[HU.o,<-Hc.o,MJ hi];cases h2:(((s[0]'hi).toNat:Int)==101)<;>cases h3:(((s[0]'hi).toNat:Int)==69)<;>simp[bne,h2,h3]
   clear HU Hc hix;go_in;go_wp2_with fail;refine HPN.o.mono ?_;rintro e wq ⟨rfl,hwq⟩;rw[hwq];go_wp2_with fail;all_goals
    go_ret;first|exact⟨aC HV.o.symm,As⟩|exact⟨aC (by rw[HV.o];simp[*]),As⟩
  .have h1':(0:Int)<(i:Int):=oo;have h1d:decide ((0:Int)<(i:Int))=true:=decide_eq_true h1';have h1b:(i==0)=false:=by simpa using h1
   have HV:Hid (Fp s i=true):=by show _=_;rw[HU.o,h1b];rfl
   clear h1 h1b HU;go_in;go_wp2_with fail;refine HPN.o.mono ?_;rintro e wq ⟨rfl,hwq⟩;rw[hwq];go_wp2_with fail;go_ret;exact⟨aC HV.o.symm,As⟩
theorem aiV(s:BY)(w:WD)(hs:s.size<=4000000):Calls prog 230 #[.string s] w fun e w'=>e=.returned (.string (Fe s))/\Below w.heap.size w w':=by
 have hmf:=nI;have V1:Hid (bU (w.alloc (.cells #[.string s] 9)) w.heap.size (.string s) 9):=bU.new _ _ _;have B1:Hid (Below w.heap.size w (w.alloc (.cells #[.string s] 9))):=As.alloc nl _;have c0:=V1.o.c;have HV:Hid (Fe s=aG (zO (Fp s) s s.size)):=Cb _ s;go_in;go_wp2_with fail;generalize w.alloc (.cells #[.string s] 9)=w2 at *;refine(vG s _ _ (Fp s) w2 hs (fun _ _=>rfl) ?_).mono ?_
 .intro i hi w' hb';exact af2 s i _ w' hi hs (V1.o.below hb' V1.o.lt)
 .rintro e wq ⟨rfl,hwq⟩;have B3:=hid (Ay B1.o hwq);clear hwq;go_wp2_with fail;go_ret;exact⟨by rw[HV.o];rfl,B3.o⟩
theorem af4(s:BY)(w:WD)(hs:s.size<=4000000):Calls prog 231 #[.string s] w fun e w'=>e=.returned (.string (Hw s))/\Below w.heap.size w w':=by
 have hmf:=nI;have V1:Hid (bU (w.alloc (.cells #[.string s] 9)) w.heap.size (.string s) 9):=bU.new _ _ _;have B1:Hid (Below w.heap.size w (w.alloc (.cells #[.string s] 9))):=As.alloc nl _;have c0:=V1.o.c;obtain⟨m,Hm⟩:=Nm (aG (zO (fun i=>xH (bt s i)) s s.size));have HV:Hid (Hw s=aG [⟨#[117,114,108,40]⟩,m,⟨#[41]⟩]):=by show _=_;unfold Hw;rw[Cb,Hm.o];simp[aG,akI,b1]
 have hms:m.size<=16000000:=by rw[<-Hm.o,oQ];have:=Ej (fun i=>xH (bt s i)) s s.size;omega
 go_in;go_wp2_with fail;generalize w.alloc (.cells #[.string s] 9)=w2 at *;refine(vG s _ _ (fun i=>xH (bt s i)) w2 hs (fun _ _=>rfl) ?_).mono ?_
 .intro i hi w' hb';exact af0 s i _ w' hi (V1.o.below hb' V1.o.lt)
 .rw[Hm.o];rintro e wq ⟨rfl,hwq⟩;have B3:=hid (Ay B1.o hwq);have hs3:=B3.o.size;clear hwq c0;go_wp2_with fail;refine pmb (dQ [⟨#[117,114,108,40]⟩,m,⟨#[41]⟩] wq.heap.size _ _ (row3 wq ⟨#[117,114,108,40]⟩ m ⟨#[41]⟩) Aa (by show 4+(m.size+(1+0))<=_;omega)) fun w5 hb5=>?_;have B5:Hid (Below w.heap.size w w5):=(B3.o.alloc hs3 _).trans (hb5.mono Al);clear hb5;go_wp2_with fail;go_ret;exact⟨by rw[HV.o];rfl,B5.o⟩
theorem uf(ok:Nat->UInt8->Bool):∀(l:List UInt8) (i:Nat),(BP ok i l).size<=4*l.length
 |[],i=>by show 0<=_;omega
 |c::r,i=>by
  unfold BP;rw[ByteArray.size_append];have:=uf ok r (i+1);have h2:(if ok i c=true then b1 c else KU c).size<=4:=by
   split
   .show 1<=4;omega
   .show 4<=4;omega
  simp only[List.length_cons];omega
theorem qJ(s:BY):s.data.toList.length=s.size:=Array.length_toList
theorem fQ(s:BY):(dP s).size<=4*s.size:=by have:=uf (dZ s) s.data.toList 0;rw[qJ]at this;exact this
theorem Ih(s:BY):(Fe s).size<=4*s.size:=by have:=uf (fun i c=>dZ s i c&&!(i==0&&(c==101||c==69))) s.data.toList 0;rw[qJ]at this;exact this
theorem Au(s:BY):(xG s).size<=4*s.size+2:=by have:=uf (fun _ c=>jO c) s.data.toList 0;rw[qJ]at this;unfold xG;rw[ByteArray.size_append,ByteArray.size_append];show 1+(_+1)<=_;omega
theorem Vy(s:BY):(Hw s).size<=4*s.size+5:=by have:=uf (fun _ c=>xH c) s.data.toList 0;rw[qJ]at this;unfold Hw;rw[ByteArray.size_append,ByteArray.size_append];show 4+(_+1)<=_;omega
mutual
def Cc:Nd->Nat
 |.mk t k=>4*t.word.size+4*t.unit.size+16+dL k
def dL:List Nd->Nat
 |[]=>0
 |n::r=>Cc n+dL r
end
theorem Ce(t:Tok):(closing t).size<=1:=by
 unfold closing;repeat' split
 all_goals decide
theorem MK(t:Tok)(inn:BY):(Qy t inn).size<=4*t.word.size+4*t.unit.size+12+inn.size:=by
 have h1:=fQ t.word;have h2:=Ih t.unit;have h3:=Au t.word;have h4:=Vy t.word;have h5:=Ce t;have e:∀(c:UInt8),(b1 c).size=1:=fun _=>rfl;unfold Qy;by_cases k1:t.kind=1
 .rw[if_pos k1,e];omega
 rw[if_neg k1];by_cases k2:t.kind=2
 .rw[if_pos k2];omega
 rw[if_neg k2];by_cases k3:t.kind=3
 .rw[if_pos k3];show 2<=_;omega
 rw[if_neg k3];by_cases k4:t.kind=4
 .rw[if_pos k4,ByteArray.size_append];show 1+_<=_;omega
 rw[if_neg k4];by_cases k6:t.kind=6
 .rw[if_pos k6,ByteArray.size_append];show _+1<=_;omega
 rw[if_neg k6];by_cases k7:t.kind=7
 .rw[if_pos k7,ByteArray.size_append];omega
 rw[if_neg k7];by_cases k8:t.kind=8
 .rw[if_pos k8];show 4<=_;omega
 rw[if_neg k8];by_cases k9:t.kind=9
 .rw[if_pos k9];show 3<=_;omega
 rw[if_neg k9];by_cases k10:t.kind=10
 .rw[if_pos k10,ByteArray.size_append];show 1+_<=_;omega
 rw[if_neg k10];by_cases k11:t.kind=11
 .rw[if_pos k11,ByteArray.size_append,ByteArray.size_append,ByteArray.size_append];show _+(1+(_+1))<=_;omega
 rw[if_neg k11];by_cases k12:t.kind=12
 .rw[if_pos k12];omega
 rw[if_neg k12];by_cases k13:t.kind=13
 .rw[if_pos k13];show 6<=_;omega
 rw[if_neg k13];by_cases k14:t.kind=14
 .rw[if_pos k14];omega
 rw[if_neg k14];by_cases k15:t.kind=15
 .rw[if_pos k15,ByteArray.size_append,ByteArray.size_append];omega
 rw[if_neg k15];omega
mutual
theorem Vz:∀(n:Nd),(iM n).size+4<=Cc n
 |.mk t k=>by unfold iM Cc;have:=MK t (l9 none k);have:=vH none k;omega
theorem vH:∀(a:Option Tok) (l:List Nd),(l9 a l).size<=dL l
 |a,[]=>by unfold l9;show 0<=_;omega
 |a,n::r=>by
  unfold l9 dL;have h1:=Vz n;have h2:=vH (some n.t) r;have h3:(Aj a n.t).size<=4:=by
   unfold Aj;split
   .show 0<=4;omega
   .split
    .show 4<=4;omega
    .show 0<=4;omega
  rw[ByteArray.size_append];split
  .have:aA.size=0:=rfl;omega
  .rw[ByteArray.size_append];omega
end
section
attribute [local go_sem] bI bJ aX aY
theorem bf(w:WD)(o:Obj):Below w.heap.size w (w.alloc o):=As.alloc nl _
theorem Ci(t:Tok)(ka:Option Addr)(kl kc:Nat)(w:WD):
  Calls prog 163 #[fB t (.slice ka kl kc)] w fun e w'=>e=.returned (.bool (decide (t.kind=1)))/\Below w.heap.size w w':=by
 unfold fB;have A2:Hid (VB (w.alloc (.cells #[.int .i64 t.kind,.string t.word,.string t.unit,.slice ka kl kc] 199)) w.heap.size (.int .i64 t.kind) (.string t.word) (.string t.unit) (.slice ka kl kc)):=VB.new _ _ _ _ _;have B2:Hid (Below w.heap.size w (w.alloc (.cells #[.int .i64 t.kind,.string t.word,.string t.unit,.slice ka kl kc] 199))):=bf _ _;obtain⟨a0,a1,a2,a3⟩:=A2.o.cs;have HV:Hid ((t.kind==1)=decide (t.kind=1)):=by show _=_;rw[Bool.eq_iff_iff];simp
 go_in;go_wp2_with fail;go_ret;exact⟨aC HV.o,B2.o⟩
def markT(t:Tok):Bool:=decide (t.kind=15)&&Yt t.word
theorem QF(t:Tok)(ka:Option Addr)(kl kc:Nat)(w:WD):
  Calls prog 228 #[fB t (.slice ka kl kc)] w fun e w'=>e=.returned (.bool (markT t))/\Below w.heap.size w w':=by
 unfold fB;have A2:Hid (VB (w.alloc (.cells #[.int .i64 t.kind,.string t.word,.string t.unit,.slice ka kl kc] 199)) w.heap.size (.int .i64 t.kind) (.string t.word) (.string t.unit) (.slice ka kl kc)):=VB.new _ _ _ _ _;have B2:Hid (Below w.heap.size w (w.alloc (.cells #[.int .i64 t.kind,.string t.word,.string t.unit,.slice ka kl kc] 199))):=bf _ _;obtain⟨a0,a1,a2,a3⟩:=A2.o.cs;have HM:Hid (markT t=(decide (t.kind=15)&&(decide (t.word=b1 44)||decide (t.word=b1 58)||decide (t.word=b1 59)||decide (t.word=b1 41)||decide (t.word=b1 93)||decide (t.word=b1 125)))):=rfl;have e1:(t.word.toList==[44])=decide (t.word=b1 44):=ay _ _;have e2:(t.word.toList==[58])=decide (t.word=b1 58):=ay _ _;have e3:(t.word.toList==[59])=decide (t.word=b1 59):=ay _ _;have e4:(t.word.toList==[41])=decide (t.word=b1 41):=ay _ _
 have e5:(t.word.toList==[93])=decide (t.word=b1 93):=ay _ _;have e6:(t.word.toList==[125])=decide (t.word=b1 125):=ay _ _;cases hk:(t.kind==15)
 .have hk':¬t.kind=15:=by simpa using hk
  have HV:Hid (markT t=false):=by show _=_;rw[HM.o,decide_eq_false hk'];rfl
  clear hk';go_in;go_wp2_with fail;go_ret;exact⟨aC HV.o.symm,B2.o⟩
 .have hk':t.kind=15:=by simpa using hk
  have HV:Hid (markT t=(decide (t.word=b1 44)||decide (t.word=b1 58)||decide (t.word=b1 59)||decide (t.word=b1 41)||decide (t.word=b1 93)||decide (t.word=b1 125))):=by show _=_;rw[HM.o,decide_eq_true hk'];rfl
  clear hk' HM;generalize decide (t.word=b1 44)=x1 at *;generalize decide (t.word=b1 58)=x2 at *;generalize decide (t.word=b1 59)=x3 at *;generalize decide (t.word=b1 41)=x4 at *;generalize decide (t.word=b1 93)=x5 at *;generalize decide (t.word=b1 125)=x6 at *;cases x1
  .cases x2
   .cases x3
    .cases x4
     .cases x5
      .cases x6
       .go_in;go_wp2_with fail;go_ret;exact⟨aC HV.o.symm,B2.o⟩
       .go_in;go_wp2_with fail;go_ret;exact⟨aC HV.o.symm,B2.o⟩
      .go_in;go_wp2_with fail;go_ret;exact⟨aC HV.o.symm,B2.o⟩
     .go_in;go_wp2_with fail;go_ret;exact⟨aC HV.o.symm,B2.o⟩
    .go_in;go_wp2_with fail;go_ret;exact⟨aC HV.o.symm,B2.o⟩
   .go_in;go_wp2_with fail;go_ret;exact⟨aC HV.o.symm,B2.o⟩
  .go_in;go_wp2_with fail;go_ret;exact⟨aC HV.o.symm,B2.o⟩
def Cj(t:Tok):Bool:=decide (t.kind=1)||!decide (closing t=aA)||markT t
def zQ(t:Tok):Bool:=decide (t.kind=1)||au t (b1 91)||au t (b1 123)||markT t
theorem parts_eq(a b:Tok):parts a b=(!Cj a&&!zQ b):=by unfold parts Cj zQ;rw[show oH a=(decide (a.kind=1)||markT a) from rfl,show oH b=(decide (b.kind=1)||markT b) from rfl];cases decide (a.kind=1)<;>cases decide (b.kind=1)<;>cases markT a<;>cases markT b<;>cases decide (closing a=aA)<;>cases au b (b1 91)<;>cases au b (b1 123)<;>rfl
theorem Fq(t:Tok)(ka:Option Addr)(kl kc:Nat)(w:WD):
  Calls prog 164 #[fB t (.slice ka kl kc)] w fun e w'=>e=.returned (.bool (Cj t))/\Below w.heap.size w w':=by
 have hu:fB t (.slice ka kl kc)=.agg #[.int .i64 t.kind,.string t.word,.string t.unit,.slice ka kl kc]:=rfl;rw[hu];have A2:Hid (VB (w.alloc (.cells #[.int .i64 t.kind,.string t.word,.string t.unit,.slice ka kl kc] 199)) w.heap.size (.int .i64 t.kind) (.string t.word) (.string t.unit) (.slice ka kl kc)):=VB.new _ _ _ _ _;have B2:Hid (Below w.heap.size w (w.alloc (.cells #[.int .i64 t.kind,.string t.word,.string t.unit,.slice ka kl kc] 199))):=bf _ _;obtain⟨a0,a1,a2,a3⟩:=A2.o.cs;obtain⟨x1,H1⟩:=Nm (decide (t.kind=1));obtain⟨x2,H2⟩:=Nm (decide (closing t=aA));have HE:Hid (Cj t=(x1||!x2||markT t)):=by show _=_;unfold Cj;rw[H1.o,H2.o]
 go_in;go_wp2_with fail;generalize w.alloc (.cells #[.int .i64 t.kind,.string t.word,.string t.unit,.slice ka kl kc] 199)=w2 at *;refine(Ci t ka kl kc _).mono ?_;rw[H1.o];rintro e w3 ⟨rfl,hb3⟩;have B3:=hid (Ay B2.o hb3);have A3:=hid (A2.o.below hb3);clear hb3 a0 a1 a2 a3;obtain⟨a0,a1,a2,a3⟩:=A3.o.cs;cases x1
 .go_wp2_with fail;refine pmb (G9 t _) fun w4 hb4=>?_;have B4:=hid (Ay B3.o hb4);have A4:=hid (A3.o.below hb4);clear hb4 a0 a1 a2 a3;obtain⟨a0,a1,a2,a3⟩:=A4.o.cs;have e1:((closing t).toList==[])=x2:=by rw[<-H2.o];exact ay _ _
  by_cases he:(closing t).toList=[]
  .have HV:Hid (Cj t=markT t):=by show _=_;rw[HE.o,<-e1,he];rfl
   clear e1;go_wp2_with fail;refine pmb (QF t ka kl kc _) fun w5 hb5=>?_;have B5:=hid (Ay B4.o hb5);clear hb5;go_wp2_with fail;go_ret;exact⟨aC HV.o.symm,B5.o⟩
  .have HV:Hid (Cj t=true):=by show _=_;rw[HE.o,<-e1,show((closing t).toList==[])=false from by cases hq:(closing t).toList with|nil=>exact absurd hq he|cons _ _=>rfl];rfl
   clear e1;go_wp2_with fail;go_ret;exact⟨aC HV.o.symm,B4.o⟩
 .have HV:Hid (Cj t=true):=HE.o;go_wp2_with fail;go_ret;exact⟨aC HV.o.symm,B3.o⟩
theorem zU(t:Tok)(ka:Option Addr)(kl kc:Nat)(w:WD):
  Calls prog 165 #[fB t (.slice ka kl kc)] w fun e w'=>e=.returned (.bool (zQ t))/\Below w.heap.size w w':=by
 have hu:fB t (.slice ka kl kc)=.agg #[.int .i64 t.kind,.string t.word,.string t.unit,.slice ka kl kc]:=rfl;rw[hu];have A2:Hid (VB (w.alloc (.cells #[.int .i64 t.kind,.string t.word,.string t.unit,.slice ka kl kc] 199)) w.heap.size (.int .i64 t.kind) (.string t.word) (.string t.unit) (.slice ka kl kc)):=VB.new _ _ _ _ _;have B2:Hid (Below w.heap.size w (w.alloc (.cells #[.int .i64 t.kind,.string t.word,.string t.unit,.slice ka kl kc] 199))):=bf _ _;obtain⟨a0,a1,a2,a3⟩:=A2.o.cs;obtain⟨x1,H1⟩:=Nm (decide (t.kind=1));obtain⟨x2,H2⟩:=Nm (au t (b1 91));obtain⟨x3,H3⟩:=Nm (au t (b1 123));have HE:Hid (zQ t=(x1||x2||x3||markT t)):=by show _=_;unfold zQ;rw[H1.o,H2.o,H3.o]
 go_in;go_wp2_with fail;generalize w.alloc (.cells #[.int .i64 t.kind,.string t.word,.string t.unit,.slice ka kl kc] 199)=w2 at *;refine(Ci t ka kl kc _).mono ?_;rw[H1.o];rintro e w3 ⟨rfl,hb3⟩;have B3:=hid (Ay B2.o hb3);have A3:=hid (A2.o.below hb3);clear hb3 a0 a1 a2 a3;obtain⟨a0,a1,a2,a3⟩:=A3.o.cs;cases x1
 .go_wp2_with fail;refine(jf t _ (b1 91) _).mono ?_;rw[H2.o];rintro e w4 ⟨rfl,hb4⟩;have B4:=hid (Ay B3.o hb4);have A4:=hid (A3.o.below hb4);clear hb4 a0 a1 a2 a3;obtain⟨a0,a1,a2,a3⟩:=A4.o.cs;cases x2
  .go_wp2_with fail;refine(jf t _ (b1 123) _).mono ?_;rw[H3.o];rintro e w5 ⟨rfl,hb5⟩;have B5:=hid (Ay B4.o hb5);have A5:=hid (A4.o.below hb5);clear hb5 a0 a1 a2 a3;obtain⟨a0,a1,a2,a3⟩:=A5.o.cs;cases x3
   .have HV:Hid (zQ t=markT t):=HE.o;go_wp2_with fail;refine pmb (QF t ka kl kc _) fun w6 hb6=>?_;have B6:=hid (Ay B5.o hb6);clear hb6;go_wp2_with fail;go_ret;exact⟨aC HV.o.symm,B6.o⟩
   .have HV:Hid (zQ t=true):=HE.o;go_wp2_with fail;go_ret;exact⟨aC HV.o.symm,B5.o⟩
  .have HV:Hid (zQ t=true):=HE.o;go_wp2_with fail;go_ret;exact⟨aC HV.o.symm,B4.o⟩
 .have HV:Hid (zQ t=true):=HE.o;go_wp2_with fail;go_ret;exact⟨aC HV.o.symm,B3.o⟩
end
section
attribute [local go_sem] bI bJ aX aY
theorem rw2(w:WD)(a b:BY):(w.alloc (.cells #[.string a,.string b] 9)).ownsRow w.heap.size 9 1 (.slice (some ⟨w.heap.size,0,none⟩) 2 2) 2 ([a,b].map Value.string):=⟨rfl,.inr ⟨w.heap.size,2,_,rfl,Nat.le_refl _,heap_alloc_new w _,Nat.le_refl _,by unfold maxLen;omega,rfl,rfl⟩⟩
theorem mg{a b:BY}(h:a=b):Ending.returned (.string a)=Ending.returned (.string b):=by rw[h]
theorem xJ(w:WD)(o:Obj):Below w.heap.size w ((w.alloc o).drew):=(As.alloc nl _).drew
section
variable (wd un:BY) (ka:Option Addr) (kl kc:Nat) (w:WD)
theorem akO:Calls prog 166 #[.agg #[.int .i64 1,.string wd,.string un,.slice ka kl kc]] w fun e w'=>e=.returned (.string (b1 32))/\Below w.heap.size w w':=by have B2:Hid (Below w.heap.size w (w.alloc (.cells #[.int .i64 1,.string wd,.string un,.slice ka kl kc] 199))):=bf _ _;go_in;go_wp2_with fail;go_ret;exact⟨rfl,B2.o⟩
theorem akP:Calls prog 166 #[.agg #[.int .i64 3,.string wd,.string un,.slice ka kl kc]] w fun e w'=>e=.returned (.string (aic))/\Below w.heap.size w w':=by have B2:Hid (Below w.heap.size w (w.alloc (.cells #[.int .i64 3,.string wd,.string un,.slice ka kl kc] 199))):=bf _ _;go_in;go_wp2_with fail;go_ret;exact⟨rfl,B2.o⟩
theorem akQ:Calls prog 166 #[.agg #[.int .i64 8,.string wd,.string un,.slice ka kl kc]] w fun e w'=>e=.returned (.string (aib))/\Below w.heap.size w w':=by have B2:Hid (Below w.heap.size w (w.alloc (.cells #[.int .i64 8,.string wd,.string un,.slice ka kl kc] 199))):=bf _ _;go_in;go_wp2_with fail;go_ret;exact⟨rfl,B2.o⟩
theorem akR:Calls prog 166 #[.agg #[.int .i64 9,.string wd,.string un,.slice ka kl kc]] w fun e w'=>e=.returned (.string (ab7))/\Below w.heap.size w w':=by have B2:Hid (Below w.heap.size w (w.alloc (.cells #[.int .i64 9,.string wd,.string un,.slice ka kl kc] 199))):=bf _ _;go_in;go_wp2_with fail;go_ret;exact⟨rfl,B2.o⟩
theorem aiW:Calls prog 166 #[.agg #[.int .i64 13,.string wd,.string un,.slice ka kl kc]] w fun e w'=>e=.returned (.string (aie))/\Below w.heap.size w w':=by have B2:Hid (Below w.heap.size w (w.alloc (.cells #[.int .i64 13,.string wd,.string un,.slice ka kl kc] 199))):=bf _ _;go_in;go_wp2_with fail;go_ret;exact⟨rfl,B2.o⟩
theorem akS(k:Int)(h1:(k==1)=false)(h2:(k==2)=false)(h3:(k==3)=false)(h4:(k==4)=false)(h6:(k==6)=false)(h7:(k==7)=false)(h8:(k==8)=false)(h9:(k==9)=false)(h10:(k==10)=false)(h11:(k==11)=false)(h12:(k==12)=false)(h13:(k==13)=false)(h14:(k==14)=false)(h15:(k==15)=false):Calls prog 166 #[.agg #[.int .i64 k,.string wd,.string un,.slice ka kl kc]] w fun e w'=>e=.returned (.string wd)/\Below w.heap.size w w':=by have B2:Hid (Below w.heap.size w (w.alloc (.cells #[.int .i64 k,.string wd,.string un,.slice ka kl kc] 199))):=bf _ _;go_in;go_wp2_with fail;go_ret;exact⟨rfl,B2.o⟩
theorem akT(hw:wd.size<=4000000):Calls prog 166 #[.agg #[.int .i64 2,.string wd,.string un,.slice ka kl kc]] w fun e w'=>e=.returned (.string (xG wd))/\Below w.heap.size w w':=by have B2:Hid (Below w.heap.size w (w.alloc (.cells #[.int .i64 2,.string wd,.string un,.slice ka kl kc] 199))):=bf _ _;go_in;go_wp2_with fail;generalize w.alloc (.cells #[.int .i64 2,.string wd,.string un,.slice ka kl kc] 199)=w2 at *;have hs2:=B2.o.size;refine pmb (aci wd _ hw) fun w3 hb3=>?_;have B3:=hid (B2.o.trans (hb3.mono hs2));clear hb3;go_wp2_with fail;go_ret;exact⟨rfl,B3.o⟩
theorem aiX(hw:wd.size<=4000000):Calls prog 166 #[.agg #[.int .i64 12,.string wd,.string un,.slice ka kl kc]] w fun e w'=>e=.returned (.string (Hw wd))/\Below w.heap.size w w':=by have B2:Hid (Below w.heap.size w (w.alloc (.cells #[.int .i64 12,.string wd,.string un,.slice ka kl kc] 199))):=bf _ _;go_in;go_wp2_with fail;generalize w.alloc (.cells #[.int .i64 12,.string wd,.string un,.slice ka kl kc] 199)=w2 at *;have hs2:=B2.o.size;refine pmb (af4 wd _ hw) fun w3 hb3=>?_;have B3:=hid (B2.o.trans (hb3.mono hs2));clear hb3;go_wp2_with fail;go_ret;exact⟨rfl,B3.o⟩
theorem aiY(hw:wd.size<=4000000):Calls prog 166 #[.agg #[.int .i64 14,.string wd,.string un,.slice ka kl kc]] w fun e w'=>e=.returned (.string (dP wd))/\Below w.heap.size w w':=by have B2:Hid (Below w.heap.size w (w.alloc (.cells #[.int .i64 14,.string wd,.string un,.slice ka kl kc] 199))):=bf _ _;go_in;go_wp2_with fail;generalize w.alloc (.cells #[.int .i64 14,.string wd,.string un,.slice ka kl kc] 199)=w2 at *;have hs2:=B2.o.size;refine pmb (oW wd _ hw) fun w3 hb3=>?_;have B3:=hid (B2.o.trans (hb3.mono hs2));clear hb3;go_wp2_with fail;go_ret;exact⟨rfl,B3.o⟩
theorem akU(hw:wd.size<=4000000):Calls prog 166 #[.agg #[.int .i64 4,.string wd,.string un,.slice ka kl kc]] w fun e w'=>e=.returned (.string (b1 35++dP wd))/\Below w.heap.size w w':=by
 have B2:Hid (Below w.heap.size w (w.alloc (.cells #[.int .i64 4,.string wd,.string un,.slice ka kl kc] 199))):=bf _ _;obtain⟨nm,Aw⟩:=Nm (dP wd);have HV:Hid (aG [⟨#[35]⟩,nm]=b1 35++dP wd):=by show _=_;rw[Aw.o];simp[aG,b1]
 have hsz:nm.size<=4*wd.size:=by rw[<-Aw.o];exact fQ wd
 go_in;go_wp2_with fail;generalize w.alloc (.cells #[.int .i64 4,.string wd,.string un,.slice ka kl kc] 199)=w2 at *;have hs2:=B2.o.size;refine(oW wd _ hw).mono ?_;rw[Aw.o];rintro e w3 ⟨rfl,hb3⟩;have B3:=hid (B2.o.trans (hb3.mono hs2));have hs3:=B3.o.size;clear hb3;go_wp2_with fail;refine pmb (dQ [⟨#[35]⟩,nm] w3.heap.size _ _ (rw2 w3 ⟨#[35]⟩ nm) Aa (by show 1+(nm.size+0)<=_;omega)) fun w5 hb5=>?_;have B5:Hid (Below w.heap.size w w5):=(B3.o.alloc hs3 _).trans (hb5.mono Al);clear hb5;go_wp2_with fail;go_ret;exact⟨mg HV.o,B5.o⟩
theorem aiZ(hw:wd.size<=4000000):Calls prog 166 #[.agg #[.int .i64 10,.string wd,.string un,.slice ka kl kc]] w fun e w'=>e=.returned (.string (b1 64++dP wd))/\Below w.heap.size w w':=by
 have B2:Hid (Below w.heap.size w (w.alloc (.cells #[.int .i64 10,.string wd,.string un,.slice ka kl kc] 199))):=bf _ _;obtain⟨nm,Aw⟩:=Nm (dP wd);have HV:Hid (aG [⟨#[64]⟩,nm]=b1 64++dP wd):=by show _=_;rw[Aw.o];simp[aG,b1]
 have hsz:nm.size<=4*wd.size:=by rw[<-Aw.o];exact fQ wd
 go_in;go_wp2_with fail;generalize w.alloc (.cells #[.int .i64 10,.string wd,.string un,.slice ka kl kc] 199)=w2 at *;have hs2:=B2.o.size;refine(oW wd _ hw).mono ?_;rw[Aw.o];rintro e w3 ⟨rfl,hb3⟩;have B3:=hid (B2.o.trans (hb3.mono hs2));have hs3:=B3.o.size;clear hb3;go_wp2_with fail;refine pmb (dQ [⟨#[64]⟩,nm] w3.heap.size _ _ (rw2 w3 ⟨#[64]⟩ nm) Aa (by show 1+(nm.size+0)<=_;omega)) fun w5 hb5=>?_;have B5:Hid (Below w.heap.size w w5):=(B3.o.alloc hs3 _).trans (hb5.mono Al);clear hb5;go_wp2_with fail;go_ret;exact⟨mg HV.o,B5.o⟩
theorem akV(hw:wd.size<=4000000):Calls prog 166 #[.agg #[.int .i64 6,.string wd,.string un,.slice ka kl kc]] w fun e w'=>e=.returned (.string (wd++b1 37))/\Below w.heap.size w w':=by
 have B2:Hid (Below w.heap.size w (w.alloc (.cells #[.int .i64 6,.string wd,.string un,.slice ka kl kc] 199))):=bf _ _;have HV:Hid (aG [wd,⟨#[37]⟩]=wd++b1 37):=by show _=_;simp[aG,b1]
 have A2:Hid (VB (w.alloc (.cells #[.int .i64 6,.string wd,.string un,.slice ka kl kc] 199)) w.heap.size (.int .i64 6) (.string wd) (.string un) (.slice ka kl kc)):=VB.new _ _ _ _ _;go_in;go_upto_region 11 with fail
 generalize w.alloc (.cells #[.int .i64 6,.string wd,.string un,.slice ka kl kc] 199)=w2 at *;have hs2:=B2.o.size;obtain⟨a0,a1,a2,a3⟩:=A2.o.cs;go_wp2_with fail;refine pmb (dQ [wd,⟨#[37]⟩] w2.heap.size _ _ (rw2 w2 wd ⟨#[37]⟩) Aa (by show wd.size+(1+0)<=_;omega)) fun w5 hb5=>?_;have B5:Hid (Below w.heap.size w w5):=(B2.o.alloc hs2 _).trans (hb5.mono Al);clear hb5;go_wp2_with fail;go_ret;exact⟨mg HV.o,B5.o⟩
theorem akW(hw:wd.size<=4000000)(hu:un.size<=4000000):Calls prog 166 #[.agg #[.int .i64 7,.string wd,.string un,.slice ka kl kc]] w fun e w'=>e=.returned (.string (wd++Fe un))/\Below w.heap.size w w':=by
 have B2:Hid (Below w.heap.size w (w.alloc (.cells #[.int .i64 7,.string wd,.string un,.slice ka kl kc] 199)).drew):=xJ _ _;have A2:Hid (VB (w.alloc (.cells #[.int .i64 7,.string wd,.string un,.slice ka kl kc] 199)).drew w.heap.size (.int .i64 7) (.string wd) (.string un) (.slice ka kl kc)):=VB.new _ _ _ _ _;obtain⟨us,Hus⟩:=Nm (Fe un);have HV:Hid (aG [wd,us]=wd++Fe un):=by show _=_;rw[Hus.o];simp[aG]
 have hsz:us.size<=4*un.size:=by rw[<-Hus.o];exact Ih un
 go_in;go_wp2_with fail;refine wp_region_any An ?_;change wpAny _ _ _ _ _ _ _ (World.drew _);generalize(w.alloc (.cells #[.int .i64 7,.string wd,.string un,.slice ka kl kc] 199)).drew=w2 at *;have hs2:=B2.o.size;refine wpAny_of_held (S:=fun wx=>VB wx w.heap.size (.int .i64 7) (.string wd) (.string un) (.slice ka kl kc)) _ _ _ _ ?_;refine dH 0 rfl A2.o (by intro w hSw;obtain⟨a0,a1,a2,a3⟩:=hSw.cs;exact gs) ?_;refine dH 1 rfl A2.o (by intro w hSw;obtain⟨a0,a1,a2,a3⟩:=hSw.cs;exact gs) ?_;refine dH 2 rfl A2.o (by intro w hSw;obtain⟨a0,a1,a2,a3⟩:=hSw.cs;exact gs) ?_;refine dH 3 rfl A2.o (by intro w hSw;obtain⟨a0,a1,a2,a3⟩:=hSw.cs;exact gs) ?_
 refine dH 4 rfl A2.o (by intro w hSw;obtain⟨a0,a1,a2,a3⟩:=hSw.cs;exact gs) ?_;refine dH 5 rfl A2.o (by intro w hSw;obtain⟨a0,a1,a2,a3⟩:=hSw.cs;exact gs) ?_;refine iW 6 fun K hK=>?_;go_simp;refine(aiV un _ hu).mono ?_;rw[Hus.o];rintro e w3 ⟨rfl,hb3⟩;have B3:=hid (B2.o.trans (hb3.mono hs2));have A3:=hid (A2.o.below hb3);have hs3:=B3.o.size;clear hb3;refine hK.o _ _ A3.o (fun _=>?_);clear hK K;refine iW 7 fun K hK=>?_;go_simp;refine hK.o _ _ (A3.o.alloc _) (fun _=>?_);clear hK K;refine iW 8 fun K hK=>?_;go_simp;refine pmb (dQ [wd,us] w3.heap.size _ _ (rw2 w3 wd us) Aa (by show wd.size+(us.size+0)<=_;omega)) fun w5 hb5=>?_
 have B5:Hid (Below w.heap.size w w5):=(B3.o.alloc hs3 _).trans (hb5.mono Al);have A5:Hid (VB w5 w.heap.size (.int .i64 7) (.string wd) (.string un) (.slice ka kl kc)):=(A3.o.alloc _).below hb5;clear hb5;refine hK.o _ _ A5.o (fun _=>?_);clear hK K;refine iW 9 fun K hK=>?_;go_simp;refine hK.o _ _ (A5.o) (fun _=>?_);clear hK K;refine wpAnyH_done An ?_ _;go_wp2_with fail;go_ret;exact⟨mg HV.o,B5.o⟩
end
end
def jps(sep:BY)(ps:List BY):Nat->List BY
 |0=>[]
 |k+1=>jps sep ps k++((if k=0 then [] else [sep])++[ps.getD k aA])
theorem Cm(sep:BY)(ps:List BY)(k:Nat):jps sep ps (k+1)=jps sep ps k++((if k=0 then [] else [sep])++[ps.getD k aA]):=rfl
theorem af5(sep:BY)(ps:List BY)(k:Nat):(jps sep ps k).length<=2*k:=by
 induction k with
 |zero=>simp[jps]
 |succ k ih=>rw[Cm];split<;>simp<;>omega
def acj(sep:BY)(ps:List BY):Nat:=total ps+ps.length*sep.size
theorem aac(sep:BY)(ps:List BY):∀k,k<=ps.length->total (jps sep ps k)<=total (ps.take k)+k*sep.size:=by
 intro k;induction k with
 |zero=>intro _;simp[jps,total]
 |succ k ih=>
  intro hk;have h:=ih oo;rw[Cm,dh,dh,List.take_succ_eq_append_getElem (show k<ps.length by omega),dh,List.getD_eq_getElem?_getD,List.getElem?_eq_getElem (show k<ps.length by omega)];have e:total (if k=0 then [] else [sep])<=sep.size:=by split<;>simp[total]
  rw[Nat.add_mul];simp only[Option.getD_some];omega
theorem acn(sep:BY):∀(ps:List BY) (pre:List BY) (k:Nat),0<k->pre.length=k->aG (jps sep (pre++ps) (k+ps.length))=aG (jps sep (pre++ps) k)++(if ps=[] then aA else sep++jX sep ps):=by
 intro ps;induction ps with
 |nil=>intro pre k hk hp;simp[mO]
 |cons a r ih=>
  intro pre k hk hp;have h:=ih (pre++[a]) (k+1) oo (by simp[hp]);rw[List.append_assoc,List.singleton_append]at h;rw[show k+(a::r).length=k+1+r.length by simp;omega,h,Cm,if_neg oo,qG,qG];have hg:(pre++a::r).getD k aA=a:=by rw[List.getD_eq_getElem?_getD,List.getElem?_append_right oo,hp];simp
  rw[hg,show(if (a::r)=[] then aA else sep++jX sep (a::r))=sep++jX sep (a::r) from if_neg (by simp)];have e1:aG [sep]=sep:=by simp[aG]
  have e2:aG [a]=a:=by simp[aG]
  rw[e1,e2];cases r with
  |nil=>rw[if_pos rfl,mO];rfl
  |cons b q=>rw[if_neg (by simp)];show _++(sep++a)++(sep++jX sep (b::q))=_++(sep++(a++(sep++jX sep (b::q))));rw[ByteArray.append_assoc,ByteArray.append_assoc]
theorem af6(sep:BY)(ps:List BY):aG (jps sep ps ps.length)=jX sep ps:=by
 cases ps with
 |nil=>rfl
 |cons a r=>
  have h:=acn sep r [a] 1 oo rfl;rw[show(a::r).length=1+r.length by simp;omega];rw[List.singleton_append]at h;rw[h];show aG (jps sep (a::r) 1)++_=_;have e:jps sep (a::r) 1=[a]:=rfl;rw[e];cases r with
  |nil=>simp[aG,jX,mO]
  |cons b q=>rw[if_neg (by simp)];simp[aG,jX]
theorem Ii(sep:BY)(ps:List BY)(base:Nat)(v:Av)(w:WD)(h:w.ownsRow base 9 1 v ps.length (ps.map Value.string))(hn:ps.length<=4194304)(ht:acj sep ps<=1099511627776):
  Calls prog 192 #[.string sep,v] w fun e w'=>e=.returned (.string (jX sep ps))/\Below w.heap.size w w':=by
 have HO:=hid h;obtain⟨va,vc,rfl⟩:=kQ h;clear h;obtain⟨iS,wK⟩:=info_str;have HI:=hid wK;clear wK;go_in;go_wp2_with fail;go_loopg[5,10] ps.length (fun gg v5 v10 wr=>∃(u:Av) (k:Nat),u=v5/\k+gg=ps.length/\v10=.int .i64 (k:Int)/\Aside (wr.ownsRow w.heap.size 9 1 u (jps sep ps k).length ((jps sep ps k).map Value.string)/\Below w.heap.size w wr));case atStart=>exact⟨_,0,rfl,oo,rfl,World.ownsRow_nil _ _ _ _,As⟩
 case round=>
  obtain⟨u,k,rfl,hk,rfl,hA⟩:=hrel;have O1:=hid hA.o.1;have B1:=hid hA.o.2;clear hA;have hsz:=B1.o.size;have hjl:=af5 sep ps k;by_cases hlt:k<ps.length
  .have h1:(k:Int)<(ps.length:Int):=oo;obtain⟨g,c',hq⟩:∃g c',Value.slice va ps.length vc=.slice (some ⟨g,0,none⟩) ps.length c':=by
    rcases HO.o.2 with⟨hv,hn⟩|⟨g,c',_,hv,_⟩
    .omega
    .exact⟨g,c',hv⟩
   injection hq with hq1 _ hq2
   subst hq1 hq2;have hgl:g<w.heap.size:=(HO.o.lt g rfl).2;have c0:wr.cell? ⟨g,k,none⟩=some (.string (ps.getD k aA)):=by have:=HO.o.cells (g:=g) rfl k (.string (ps.getD k aA)) (by rw[List.getElem?_map,List.getD_eq_getElem?_getD,List.getElem?_eq_getElem hlt];rfl);rw[Addr.add_lit,Nat.zero_add]at this;rw[B1.o.cell (p:=⟨g,_,none⟩) hgl];exact this
   have HJ:Hid (jps sep ps (k+1)=jps sep ps k++((if k=0 then [] else [sep])++[ps.getD k aA])):=Cm sep ps k;generalize ps.getD k aA=x at *;by_cases h0:k=0
   .subst h0;have HJ2:Hid (jps sep ps (0+1)=jps sep ps 0++[x]):=HJ.o;go_wp2_with(at_builtin;go_must(refine wpList_append_own _ rfl _ _ 26 rfl w.heap.size 9 iS (.string ⟨#[]⟩) 1 16 Tryz.underlying26 HI.o.1 HI.o.2.1 HI.o.2.2.1 HI.o.2.2.2 rfl oo u (jps sep ps 0).length ((jps sep ps 0).map Value.string) rfl (O1.o.alloc _) ⟨wr.heap.size,0,none⟩ 1 1 [.string x] rfl rfl (cell_one_new _ _ _) (aT _) Ao oo Al ?_));intro v4 w4 hown4 dS _;have O4:Hid (w4.ownsRow w.heap.size 9 1 v4 (jps sep ps (0+1)).length ((jps sep ps (0+1)).map Value.string)):=by show World.ownsRow _ _ _ _ _ _ _;rw[HJ2.o];first|(rw[List.length_append,List.map_append];exact hown4)|simpa using hown4
    have B4:Hid (Below w.heap.size w w4):=(B1.o.alloc hsz _).grown dS Al (fun rr hr=>(O1.o.lt rr hr).1);clear hown4 dS;go_wp2_with fail;go_roundg(gk-1);case measure=>omega
    case rel=>exact⟨v4,0+1,rfl,oo,by congr 1,O4.o,B4.o⟩
   .have h0':(0:Int)<(k:Int):=oo;have HJ2:Hid (jps sep ps (k+1)=(jps sep ps k++[sep])++[x]):=by show _=_;rw[HJ.o,if_neg h0,List.append_assoc]
    clear h0;go_wp2_with(at_builtin;go_must(refine wpList_append_own _ rfl _ _ 26 rfl w.heap.size 9 iS (.string ⟨#[]⟩) 1 16 Tryz.underlying26 HI.o.1 HI.o.2.1 HI.o.2.2.1 HI.o.2.2.2 rfl oo u (jps sep ps k).length ((jps sep ps k).map Value.string) rfl (O1.o.alloc _) ⟨wr.heap.size,0,none⟩ 1 1 [.string sep] rfl rfl (cell_one_new _ _ _) (aT _) Ao oo Al ?_));intro v3 w3 hown3 ab5 _;have O3:Hid (w3.ownsRow w.heap.size 9 1 v3 (jps sep ps k++[sep]).length ((jps sep ps k++[sep]).map Value.string)):=by show World.ownsRow _ _ _ _ _ _ _;first|(rw[List.length_append,List.map_append];exact hown3)|simpa using hown3
    have B3:Hid (Below w.heap.size w w3):=(B1.o.alloc hsz _).grown ab5 Al (fun rr hr=>(O1.o.lt rr hr).1);have hs3:=B3.o.size;have hl3:(jps sep ps k++[sep]).length<=2*k+1:=by simp;omega
    clear hown3 ab5 c0;go_wp2_with(at_builtin;go_must(refine wpList_append_own _ rfl _ _ 26 rfl w.heap.size 9 iS (.string ⟨#[]⟩) 1 16 Tryz.underlying26 HI.o.1 HI.o.2.1 HI.o.2.2.1 HI.o.2.2.2 rfl oo v3 (jps sep ps k++[sep]).length ((jps sep ps k++[sep]).map Value.string) rfl (O3.o.alloc _) ⟨w3.heap.size,0,none⟩ 1 1 [.string x] rfl rfl (cell_one_new _ _ _) (aT _) (by unfold maxLen;simp;omega) oo Al ?_));intro v4 w4 hown4 dS _;have O4:Hid (w4.ownsRow w.heap.size 9 1 v4 (jps sep ps (k+1)).length ((jps sep ps (k+1)).map Value.string)):=by show World.ownsRow _ _ _ _ _ _ _;rw[HJ2.o];first|(rw[List.length_append,List.map_append];exact hown4)|simpa using hown4
    have B4:Hid (Below w.heap.size w w4):=(B3.o.alloc hs3 _).grown dS Al (fun rr hr=>(O3.o.lt rr hr).1);clear hown4 dS;go_wp2_with fail;go_roundg(gk-1);case measure=>omega
    case rel=>exact⟨v4,k+1,rfl,oo,by congr 1,O4.o,B4.o⟩
  .have h1:(ps.length:Int)<=(k:Int):=oo;have hke:k=ps.length:=oo;subst hke;have hjt:=aac sep ps ps.length nl;rw[List.take_of_length_le nl]at hjt;have HV:Hid (aG (jps sep ps ps.length)=jX sep ps):=af6 sep ps;unfold acj at ht;go_wp2_with fail;refine pmb (dQ (jps sep ps ps.length) w.heap.size u _ O1.o oo oo) fun w5 hb5=>?_;have B5:=hid (B1.o.trans (hb5.mono hsz));clear hb5;go_wp2_with fail;go_ret;exact⟨mg HV.o,B5.o⟩
section
attribute [local go_sem] bI bJ aX aY
def sG(c:Nat):Int:=if c=32 then 1 else if c=62 then 2 else if c=43 then 3 else if c=126 then 4 else 0
theorem xK(s:BY):au (hdN []).t s=false:=by simp[au,hdN,Tok.k]
theorem aco{l:List Nd}(h:au (hdN (aH l)).t (b1 62)=true):gU l=some (62,aH (aH l).tail):=by
 unfold gU;cases hd:aH l with
 |nil=>rw[hd,xK]at h;cases h
 |cons n r=>rw[hd]at h;simp only[hdN]at h;simp[dN,h]
theorem VA{l:List Nd}(h0:au (hdN (aH l)).t (b1 62)=false)(h:au (hdN (aH l)).t (b1 43)=true):gU l=some (43,aH (aH l).tail):=by
 unfold gU;cases hd:aH l with
 |nil=>rw[hd,xK]at h;cases h
 |cons n r=>rw[hd]at h h0;simp only[hdN]at h h0;simp[dN,h,h0]
theorem QG{l:List Nd}(h0:au (hdN (aH l)).t (b1 62)=false)(h1:au (hdN (aH l)).t (b1 43)=false)(h:au (hdN (aH l)).t (b1 126)=true):gU l=some (126,aH (aH l).tail):=by
 unfold gU;cases hd:aH l with
 |nil=>rw[hd,xK]at h;cases h
 |cons n r=>rw[hd]at h h0 h1;simp only[hdN]at h h0 h1;simp[dN,h,h0,h1]
theorem QH{l:List Nd}(h0:au (hdN (aH l)).t (b1 62)=false)(h1:au (hdN (aH l)).t (b1 43)=false)(h2:au (hdN (aH l)).t (b1 126)=false)(h:(aH l).length<l.length):gU l=some (32,aH l):=by
 unfold gU;cases hd:aH l with
 |nil=>
  have:l≠[]:=by rintro rfl;simp at h
  simp[this]
 |cons n r=>rw[hd]at h h0 h1 h2;simp only[hdN]at h0 h1 h2;simp only[dN,h0,h1,h2];simp only[Bool.false_eq_true,if_false];rw[if_pos h]
theorem VD{l:List Nd}(h0:au (hdN (aH l)).t (b1 62)=false)(h1:au (hdN (aH l)).t (b1 43)=false)(h2:au (hdN (aH l)).t (b1 126)=false)(h:¬(aH l).length<l.length):gU l=none:=by
 unfold gU;cases hd:aH l with
 |nil=>
  have:l=[]:=by rw[hd]at h;exact List.eq_nil_of_length_eq_zero (by simp only[List.length_nil]at h;omega)
  simp[this]
 |cons n r=>rw[hd]at h h0 h1 h2;simp only[hdN]at h0 h1 h2;simp only[dN,h0,h1,h2];simp only[Bool.false_eq_true,if_false];rw[if_neg h]
theorem Ov(B b:Nat)(sv:Av)(l:List Nd)(w:WD)(h:fV B w b sv l):
  Calls prog 198 #[.pointer (some ⟨b,0,none⟩)] w fun e w'=>∃sv' l',fV B w' b sv' l'/\Turn b w w'/\(gU l=none/\e=.returned (.tuple #[.int .i64 0,.bool false])\/∃c,gU l=some (c,l')/\e=.returned (.tuple #[.int .i64 (sG c),.bool true])):=by
 have R1:=hid h;clear h;obtain⟨d,Hd⟩:=Nm (aH l);obtain⟨bl,Hbl⟩:=Nm (decide (d.length<l.length));go_in;go_wp2_with fail;refine(y7 B b sv l _ R1.o).mono ?_;rw[Hd.o,Hbl.o];rintro e w1 ⟨sv1,rfl,hR1,hT1⟩;have R2:=hid hR1;have T2:=hid hT1;clear hR1 hT1 R1;go_wp2_with fail;refine(oP B b sv1 d (b1 62) _ R2.o).mono ?_;rintro e w2 ⟨Yv,rfl,hR2,hT2⟩;have T3:=hid (T2.o.trans hT2);clear hT2;obtain⟨s1,Az⟩:=Nm (au (hdN d).t (b1 62));rw[Az.o];cases s1
 .have R3:Hid (fV B w2 b Yv d):=by have:=hR2;rw[y5 Az.o]at this;exact this
  clear hR2 R2 T2;go_wp2_with fail;refine(oP B b Yv d (b1 43) _ R3.o).mono ?_;rintro e w3 ⟨Em,rfl,D7,Ox⟩;have T4:=hid (T3.o.trans Ox);clear Ox;obtain⟨s2,Hs2⟩:=Nm (au (hdN d).t (b1 43));rw[Hs2.o];cases s2
  .have R4:Hid (fV B w3 b Em d):=by have:=D7;rw[y5 Hs2.o]at this;exact this
   clear D7 R3 T3;go_wp2_with fail;refine(oP B b Em d (b1 126) _ R4.o).mono ?_;rintro e w4 ⟨sv4,rfl,ZR,hT4⟩;have T5:=hid (T4.o.trans hT4);clear hT4;obtain⟨s3,Hs3⟩:=Nm (au (hdN d).t (b1 126));rw[Hs3.o];cases s3
   .have R5:Hid (fV B w4 b sv4 d):=by have:=ZR;rw[y5 Hs3.o]at this;exact this
    clear ZR R4 T4;cases bl
    .have HV:Hid (gU l=none):=VD (by rw[Hd.o];exact Az.o) (by rw[Hd.o];exact Hs2.o) (by rw[Hd.o];exact Hs3.o) (by rw[Hd.o];have:=Hbl.o;simpa using this);go_wp2_with fail;go_ret2
     exact⟨_,_,R5.o,T5.o,.inl ⟨HV.o,rfl⟩⟩
    .have HV:Hid (gU l=some (32,d)):=by
      have:=QH (l:=l) (by rw[Hd.o];exact Az.o) (by rw[Hd.o];exact Hs2.o) (by rw[Hd.o];exact Hs3.o) (by rw[Hd.o];have:=Hbl.o;simpa using this);rwa[Hd.o]at this
     go_wp2_with fail;go_ret2
     exact⟨_,_,R5.o,T5.o,.inr ⟨32,HV.o,rfl⟩⟩
   .have R5:Hid (fV B w4 b sv4 d.tail):=by have:=ZR;rw[qZ Hs3.o]at this;exact this
    clear ZR R4 T4;have HV:Hid (gU l=some (126,aH d.tail)):=by have:=QG (l:=l) (by rw[Hd.o];exact Az.o) (by rw[Hd.o];exact Hs2.o) (by rw[Hd.o];exact Hs3.o);rwa[Hd.o]at this
    go_wp2_with fail;refine(y7 B b sv4 d.tail _ R5.o).mono ?_;rintro e w6 ⟨sv6,rfl,QI,Qe⟩;have R6:=hid QI;have T6:=hid (T5.o.trans Qe);clear QI Qe;go_wp2_with fail;go_ret2
    exact⟨_,_,R6.o,T6.o,.inr ⟨126,HV.o,rfl⟩⟩
  .have R4:Hid (fV B w3 b Em d.tail):=by have:=D7;rw[qZ Hs2.o]at this;exact this
   clear D7 R3 T3;have HV:Hid (gU l=some (43,aH d.tail)):=by have:=VA (l:=l) (by rw[Hd.o];exact Az.o) (by rw[Hd.o];exact Hs2.o);rwa[Hd.o]at this
   go_wp2_with fail;refine(y7 B b Em d.tail _ R4.o).mono ?_;rintro e w6 ⟨sv6,rfl,QI,Qe⟩;have R6:=hid QI;have T6:=hid (T4.o.trans Qe);clear QI Qe;go_wp2_with fail;go_ret2
   exact⟨_,_,R6.o,T6.o,.inr ⟨43,HV.o,rfl⟩⟩
 .have R3:Hid (fV B w2 b Yv d.tail):=by have:=hR2;rw[qZ Az.o]at this;exact this
  clear hR2 R2 T2;have HV:Hid (gU l=some (62,aH d.tail)):=by have:=aco (l:=l) (by rw[Hd.o];exact Az.o);rwa[Hd.o]at this
  go_wp2_with fail;refine(y7 B b Yv d.tail _ R3.o).mono ?_;rintro e w6 ⟨sv6,rfl,QI,Qe⟩;have R6:=hid QI;have T6:=hid (T3.o.trans Qe);clear QI Qe;go_wp2_with fail;go_ret2
  exact⟨_,_,R6.o,T6.o,.inr ⟨62,HV.o,rfl⟩⟩
end
section
attribute [local go_sem] bI bJ aX aY
def stB(s:BY):Bool:=decide (s=BL\/s=uY\/s=BM\/s=Eh)
theorem ai0(s:BY):stB s=((s.toList==[114,111,111,116])||(s.toList==[102,105,114,115,116,45,99,104,105,108,100])||(s.toList==[108,97,115,116,45,99,104,105,108,100])||(s.toList==[101,109,112,116,121])):=by simp only[ay];unfold stB BL uY BM Eh;simp only[Bool.decide_or,Bool.or_assoc]
theorem aad(s:BY)(w:WD):Calls prog 305 #[.string s] w fun e w'=>e=.returned (.bool (stB s))/\w'=w:=by
 have HV:Hid (stB s=((s.toList==[114,111,111,116])||(s.toList==[102,105,114,115,116,45,99,104,105,108,100])||(s.toList==[108,97,115,116,45,99,104,105,108,100])||(s.toList==[101,109,112,116,121]))):=ai0 s;cases h1:(s.toList==[114,111,111,116])
 .cases h2:(s.toList==[102,105,114,115,116,45,99,104,105,108,100])
  .cases h3:(s.toList==[108,97,115,116,45,99,104,105,108,100])
   .cases h4:(s.toList==[101,109,112,116,121])
    .rw[h1,h2,h3,h4]at HV;go_in;go_wp2_with fail;go_ret;exact⟨aC HV.o.symm,rfl⟩
    .rw[h1,h2,h3,h4]at HV;go_in;go_wp2_with fail;go_ret;exact⟨aC HV.o.symm,rfl⟩
   .rw[h1,h2,h3]at HV;go_in;go_wp2_with fail;go_ret;exact⟨aC HV.o.symm,rfl⟩
  .rw[h1,h2]at HV;go_in;go_wp2_with fail;go_ret;exact⟨aC HV.o.symm,rfl⟩
 .rw[h1]at HV;go_in;go_wp2_with fail;go_ret;exact⟨aC HV.o.symm,rfl⟩
theorem acp{v:Nat}(h:999<v)(l:List UInt8):oN v l=none:=by
 cases l with
 |nil=>unfold oN;rw[if_neg oo]
 |cons c r=>unfold oN;rw[if_neg oo]
theorem Yw{s:BY}{i:Nat}(h:i<s.size):pk s i=((s.data.toList[i]'(by simpa using h)).toNat:Int):=by rw[zK h];rfl
theorem Oy(s:BY)(w:WD)(hs:s.size<=4000000):
  Calls prog 307 #[.string s] w fun e w'=>(oN 0 s.data.toList=none/\e=.returned (.tuple #[.int .i64 0,.bool false])\/∃v:Nat,oN 0 s.data.toList=some v/\e=.returned (.tuple #[.int .i64 (v:Int),.bool true]))/\w'=w:=by
 have hdl:s.data.toList.length=s.size:=by simp
 go_in;go_wp2_with fail;go_loopg[4,8] s.size (fun g v4 v8 wr=>∃(n i:Nat),v4=.int .i64 (n:Int)/\v8=.int .i64 (i:Int)/\i+g=s.size/\n<=999/\Aside (oN 0 s.data.toList=oN n (s.data.toList.drop i)/\w=wr));case atStart=>exact⟨0,0,rfl,rfl,oo,oo,by simp,rfl⟩
 case round=>
  obtain⟨n,i,rfl,rfl,hi,hn,hA⟩:=hrel;have HE:=hid hA.o.1;obtain rfl:=hA.o.2;clear hA;by_cases hlt:i<s.size
  .have h1:(i:Int)<(s.size:Int):=oo;have hix:=gQ s i hlt;have hp0:=abT s i;have hp1:=Yj s i;have HD:Hid (oN n (s.data.toList.drop i)=if 48<=(pk s i).toNat/\(pk s i).toNat<=57/\n<=999 then oN (10*n+(pk s i).toNat-48) (s.data.toList.drop (i+1)) else none):=by
    show _=_;rw[List.drop_eq_getElem_cons (by rw[hdl];exact hlt),Yw hlt];rfl
   have hpp:0<=pk s i:=tK hlt;obtain⟨c,Hc⟩:=Nm (pk s i);rw[Hc.o]at hix hp0 hp1 HD hpp;by_cases h48:c<48
   .have HN:Hid (oN 0 s.data.toList=none):=by
     show _=_;rw[HE.o,HD.o,if_neg oo]
    clear HD;go_wp2_with fail;go_ret2
    exact⟨.inl ⟨HN.o,rfl⟩,rfl⟩
   .by_cases h57:57<c
    .have HN:Hid (oN 0 s.data.toList=none):=by
      show _=_;rw[HE.o,HD.o,if_neg oo]
     clear HD;go_wp2_with fail;go_ret2
     exact⟨.inl ⟨HN.o,rfl⟩,rfl⟩
    .obtain⟨k,rfl⟩:∃k:Nat,c=48+k:=⟨(c-48).toNat,oo⟩;have hk9:k<=9:=oo;have HN:Hid (oN 0 s.data.toList=oN (10*n+k) (s.data.toList.drop (i+1))):=by
      show _=_;rw[HE.o,HD.o,if_pos oo];congr 1
      omega
     have hw1:IntKind.u8.wrap (48+(k:Int)-48)=(k:Int):=by rw[show(48+(k:Int)-48)=(k:Int) from by omega];rw[IntKind.wrap_u8];omega
     clear HD HE hp0 hp1 hpp Hc;by_cases hbig:999<n*10+k
     .have hb2:(999:Int)<(n:Int)*10+(k:Int):=oo;have HB:Hid (oN 0 s.data.toList=none):=by
       show _=_;rw[HN.o,acp oo]
      clear HN;go_wp2_with fail;go_ret2
      exact⟨.inl ⟨HB.o,rfl⟩,rfl⟩
     .have hb2:(n:Int)*10+(k:Int)<=999:=oo;go_wp2_with fail;go_roundg(s.size-(i+1));case measure=>omega
      case rel=>exact⟨n*10+k,i+1,by congr 1,by congr 1,oo,oo,by rw[HN.o,Nat.mul_comm],rfl⟩
  .have h1:(s.size:Int)<=(i:Int):=oo;have HN:Hid (oN 0 s.data.toList=some n):=by
    show _=_;rw[HE.o,List.drop_of_length_le (by rw[hdl];omega)];unfold oN;rw[if_pos hn]
   clear HE;go_wp2_with fail;go_ret2
   exact⟨.inr ⟨n,HN.o,rfl⟩,rfl⟩
end
section
attribute [local go_sem] bI bJ aX aY
def CB(t:Tok):Bool:=decide (t.kind=4)||au t (b1 46)||au t (b1 91)||au t (b1 58)
theorem Ld(B b:Nat)(sv:Av)(l:List Nd)(w:WD)(h:fV B w b sv l):
  Calls prog 256 #[.pointer (some ⟨b,0,none⟩)] w fun e w'=>e=.returned (.bool (CB (hdN l).t))/\Below w.heap.size w w':=by
 have R1:=hid h;clear h;obtain⟨n,Hn⟩:=Nm (hdN l);rw[Hn.o];go_in;go_wp2_with fail;refine(Hg B b sv l _ R1.o).mono ?_;rw[Hn.o];rintro e w1 ⟨kv,rfl,hk,hb1⟩;have B1:=hid hb1;obtain⟨ka,kc,rfl⟩:=hk.form;have hw1:=hb1.size;clear hk hb1;unfold fB;have A2:Hid (VB (w1.alloc (.cells #[.int .i64 n.t.kind,.string n.t.word,.string n.t.unit,.slice ka n.kids.length kc] 199)) w1.heap.size (.int .i64 n.t.kind) (.string n.t.word) (.string n.t.unit) (.slice ka n.kids.length kc)):=VB.new _ _ _ _ _;have B2:Hid (Below w.heap.size w (w1.alloc (.cells #[.int .i64 n.t.kind,.string n.t.word,.string n.t.unit,.slice ka n.kids.length kc] 199))):=B1.o.alloc hw1 _;go_upto_region 2 with fail
 generalize w1.alloc (.cells #[.int .i64 n.t.kind,.string n.t.word,.string n.t.unit,.slice ka n.kids.length kc] 199)=w2 at *;generalize w1.heap.size=gt at *;obtain⟨a0,a1,a2,a3⟩:=A2.o.cs;have hs2:=B2.o.size;cases hk4:(n.t.kind==4)
 .have n4:¬n.t.kind=4:=by simpa using hk4
  go_wp2_with fail;refine pmb (jf n.t _ (b1 46) _) fun w3 hb3=>?_;have B3:=hid (B2.o.trans (hb3.mono hs2));have A3:=hid (A2.o.below hb3);have hs3:=B3.o.size;clear hb3 a0 a1 a2 a3;obtain⟨a0,a1,a2,a3⟩:=A3.o.cs;obtain⟨s1,Az⟩:=Nm (au n.t (b1 46));rw[Az.o];cases s1
  .go_wp2_with fail;refine pmb (jf n.t _ (b1 91) _) fun w4 hb4=>?_;have B4:=hid (B3.o.trans (hb4.mono hs3));have A4:=hid (A3.o.below hb4);have hs4:=B4.o.size;clear hb4 a0 a1 a2 a3;obtain⟨a0,a1,a2,a3⟩:=A4.o.cs;obtain⟨s2,Hs2⟩:=Nm (au n.t (b1 91));rw[Hs2.o];cases s2
   .go_wp2_with fail;refine pmb (jf n.t _ (b1 58) _) fun w5 hb5=>?_;have B5:=hid (B4.o.trans (hb5.mono hs4));have HV:Hid (CB n.t=au n.t (b1 58)):=by show _=_;unfold CB;rw[decide_eq_false n4,Az.o,Hs2.o];rfl
    clear hb5;go_wp2_with fail;go_ret;exact⟨aC HV.o.symm,B5.o⟩
   .have HV:Hid (CB n.t=true):=by show _=_;unfold CB;rw[Hs2.o];simp
    go_wp2_with fail;go_ret;exact⟨aC HV.o.symm,B4.o⟩
  .have HV:Hid (CB n.t=true):=by show _=_;unfold CB;rw[Az.o];simp
   go_wp2_with fail;go_ret;exact⟨aC HV.o.symm,B3.o⟩
 .have n4:n.t.kind=4:=by simpa using hk4
  have HV:Hid (CB n.t=true):=by show _=_;unfold CB;rw[decide_eq_true n4];rfl
  clear n4;go_wp2_with fail;go_ret;exact⟨aC HV.o.symm,B2.o⟩
def fE(k:Nat)(nm h v:BY)(lv:Av)(p:Nat):Av:=
 if k=116 then(if nm=aA then .iface 311 (.agg #[]) else .iface 309 (.agg #[.string nm]))
 else if k=35 then .iface 332 (.agg #[.string nm])
 else if k=46 then .iface 333 (.agg #[.string nm])
 else if k=91 then .iface 341 (.agg #[.string nm,.string h,.string v])
 else if nm=nD then .iface 345 (.agg #[lv])
 else if nm=DY then .iface 346 (.agg #[lv])
 else if nm=nG then .iface 351 (if p=0 then .agg #[.string sZ,.int .i64 0] else if p=1 then .agg #[.string l7,.int .i64 0] else .agg #[.string aA,.int .i64 ((p-2:Nat):Int)])
 else .iface 343 (.agg #[.string nm])
def fO(C:wV Simple):wV Step:=fun S w x cs=>∃av,cs=[.int .i64 (sG x.1),av]/\SG C 1 S w av x.2
def AA(C:wV Simple):wV (List Step):=One (fO C) 2
def aQ:Nat->wV Simple
 |0=>fun _ _ s cs=>match s with|.mk k nm h v l p=>l=[]/\∃a c,cs=[fE k nm h v (.slice a 0 c) p]
 |n+1=>fun S w s cs=>match s with|.mk k nm h v l p=>∃lv,cs=[fE k nm h v lv p]/\SG (AA (aQ n)) 1 S w lv l
theorem fO.fair{C:wV Simple}(hF:Fair C):Fair (fO C):=by rintro S S' w w' x cs hS hw ⟨av,h1,h2⟩;exact⟨av,h1,h2.keep hF hS hw⟩
theorem aQ.fair:∀n,Fair (aQ n)
 |0=>by rintro S S' w w' ⟨k,nm,h,v,l,p⟩ cs _ _ hx;exact hx
 |n+1=>by rintro S S' w w' ⟨k,nm,h,v,l,p⟩ cs hS hw ⟨lv,h1,h2⟩;exact⟨lv,h1,h2.keep (One.fair (fO.fair (aQ.fair n))) hS hw⟩
theorem aQ.sized:∀n,ug (aQ n) 1
 |0=>by rintro S w ⟨k,nm,h,v,l,p⟩ cs ⟨_,a,c,rfl⟩;rfl
 |n+1=>by rintro S w ⟨k,nm,h,v,l,p⟩ cs ⟨lv,rfl,_⟩;rfl
theorem fO.sized(C:wV Simple):ug (fO C) 2:=by rintro S w x cs ⟨av,rfl,_⟩;rfl
theorem aQ.plain(n:Nat)(S:Nat->Prop)(w:WD)(k:Nat)(nm h v:BY)(p:Nat):aQ n S w (.mk k nm h v [] p) [fE k nm h v (.slice none 0 0) p]:=by
 cases n with
 |zero=>exact⟨rfl,_,_,rfl⟩
 |succ n=>exact⟨_,rfl,SG.iE _ _ _ _ _ _⟩
end
section
theorem af7(b:Nat)(w:WD):Calls prog 252 #[.int .i64 (sG b)] w fun e w'=>e=.returned (.string (tV b))/\w'=w:=by
 unfold sG tV;by_cases h1:b=32
 .rw[if_pos h1,if_pos h1];go_in;go_wp2_with fail;go_ret;exact⟨rfl,rfl⟩
 rw[if_neg h1,if_neg h1];by_cases h2:b=62
 .rw[if_pos h2,if_pos (.inl h2)];subst h2;clear h1;go_in;go_wp2_with fail;go_ret;exact⟨rfl,rfl⟩
 rw[if_neg h2];by_cases h3:b=43
 .rw[if_pos h3,if_pos (.inr (.inl h3))];subst h3;clear h1 h2;go_in;go_wp2_with fail;go_ret;exact⟨rfl,rfl⟩
 rw[if_neg h3];by_cases h4:b=126
 .rw[if_pos h4,if_pos (.inr (.inr h4))];subst h4;clear h1 h2 h3;go_in;go_wp2_with fail;go_ret;exact⟨rfl,rfl⟩
 rw[if_neg h4,if_neg (by rintro (h|h|h)<;>omega)];clear h1 h2 h3 h4;go_in;go_wp2_with fail;go_ret;exact⟨rfl,rfl⟩
theorem af8(w:WD):Calls prog 333 #[.agg #[]] w fun e w'=>e=.returned (.string (b1 42))/\Below w.heap.size w w':=by go_in;go_wp2_with fail;go_ret;exact⟨rfl,by first|exact Below.refl _ _|exact bf _ _⟩
section
variable (nm:BY) (w:WD)
theorem ai1(hs:nm.size<=4000000):Calls prog 327 #[.agg #[.string nm]] w fun e w'=>e=.returned (.string (dP nm))/\Below w.heap.size w w':=by have B1:Hid (Below w.heap.size w (w.alloc (.cells #[.string nm] 309))):=bf _ _;go_in;go_wp2_with fail;generalize w.alloc (.cells #[.string nm] 309)=w2 at *;refine pmb (oW nm _ hs) fun w3 hb3=>?_;have B3:=hid (Ay B1.o hb3);clear hb3;go_wp2_with fail;go_ret;exact⟨rfl,B3.o⟩
theorem akX(hs:nm.size<=4000000):Calls prog 336 #[.agg #[.string nm]] w fun e w'=>e=.returned (.string (b1 35++dP nm))/\Below w.heap.size w w':=by
 have B1:Hid (Below w.heap.size w (w.alloc (.cells #[.string nm] 332))):=bf _ _;obtain⟨o,Ho⟩:=Nm (dP nm);have HV:Hid (aG [⟨#[35]⟩,o]=b1 35++dP nm):=by show _=_;rw[Ho.o];simp[aG,b1]
 have hsz:o.size<=4*nm.size:=by rw[<-Ho.o];exact fQ nm
 go_in;go_wp2_with fail;generalize w.alloc (.cells #[.string nm] 332)=w2 at *;refine(oW nm _ hs).mono ?_;rw[Ho.o];rintro e w3 ⟨rfl,hb3⟩;have B3:=hid (Ay B1.o hb3);have hs3:=B3.o.size;clear hb3;go_wp2_with fail;refine pmb (dQ [⟨#[35]⟩,o] w3.heap.size _ _ (rw2 w3 ⟨#[35]⟩ o) Aa (by show 1+(o.size+0)<=_;omega)) fun w5 hb5=>?_;have B5:Hid (Below w.heap.size w w5):=(B3.o.alloc hs3 _).trans (hb5.mono Al);clear hb5;go_wp2_with fail;go_ret;exact⟨mg HV.o,B5.o⟩
theorem acr(hs:nm.size<=4000000):Calls prog 340 #[.agg #[.string nm]] w fun e w'=>e=.returned (.string (b1 46++dP nm))/\Below w.heap.size w w':=by
 have B1:Hid (Below w.heap.size w (w.alloc (.cells #[.string nm] 333))):=bf _ _;obtain⟨o,Ho⟩:=Nm (dP nm);have HV:Hid (aG [⟨#[46]⟩,o]=b1 46++dP nm):=by show _=_;rw[Ho.o];simp[aG,b1]
 have hsz:o.size<=4*nm.size:=by rw[<-Ho.o];exact fQ nm
 go_in;go_wp2_with fail;generalize w.alloc (.cells #[.string nm] 333)=w2 at *;refine(oW nm _ hs).mono ?_;rw[Ho.o];rintro e w3 ⟨rfl,hb3⟩;have B3:=hid (Ay B1.o hb3);have hs3:=B3.o.size;clear hb3;go_wp2_with fail;refine pmb (dQ [⟨#[46]⟩,o] w3.heap.size _ _ (rw2 w3 ⟨#[46]⟩ o) Aa (by show 1+(o.size+0)<=_;omega)) fun w5 hb5=>?_;have B5:Hid (Below w.heap.size w w5):=(B3.o.alloc hs3 _).trans (hb5.mono Al);clear hb5;go_wp2_with fail;go_ret;exact⟨mg HV.o,B5.o⟩
theorem acs(hs:nm.size<=4000000):Calls prog 358 #[.agg #[.string nm]] w fun e w'=>e=.returned (.string (b1 58++nm))/\Below w.heap.size w w':=by
 have B1:Hid (Below w.heap.size w (w.alloc (.cells #[.string nm] 343))):=bf _ _;have V1:Hid (bU (w.alloc (.cells #[.string nm] 343)) w.heap.size (.string nm) 343):=bU.new _ _ _;have HV:Hid (aG [⟨#[58]⟩,nm]=b1 58++nm):=by show _=_;simp[aG,b1]
 go_in;go_upto_region 1 with fail
 generalize w.alloc (.cells #[.string nm] 343)=w2 at *;have hs2:=B1.o.size;have c0:=V1.o.c;go_wp2_with fail;refine pmb (dQ [⟨#[58]⟩,nm] w2.heap.size _ _ (rw2 w2 ⟨#[58]⟩ nm) Aa (by show 1+(nm.size+0)<=_;omega)) fun w5 hb5=>?_;have B5:Hid (Below w.heap.size w w5):=(B1.o.alloc hs2 _).trans (hb5.mono Al);clear hb5;go_wp2_with fail;go_ret;exact⟨mg HV.o,B5.o⟩
end
def A3(w:WD)(b:Nat)(x0 x1 x2:Av):Prop:=w.heap[b]?=some (.cells #[x0,x1,x2] 341 (0,0))
theorem A3.cs{w:WD}{b:Nat}{x0 x1 x2:Av}(h:A3 w b x0 x1 x2):w.cell? ⟨b,0,none⟩=some x0/\w.cell? ⟨b,1,none⟩=some x1/\w.cell? ⟨b,2,none⟩=some x2:=by have h':w.heap[b]?=_:=h;refine⟨?_,?_,?_⟩<;>(unfold World.cell?;rw[h'];rfl)
theorem A3.lt{w:WD}{b:Nat}{x0 x1 x2:Av}(h:A3 w b x0 x1 x2):b<w.heap.size:=(Ax h)
theorem A3.below{w w':WD}{b:Nat}{x0 x1 x2:Av}(h:A3 w b x0 x1 x2)(hb:Below w.heap.size w w'):A3 w' b x0 x1 x2:=by show _=_;rw[hb.block b h.lt];exact h
theorem A3.new(w:WD)(x0 x1 x2:Av):A3 (w.alloc (.cells #[x0,x1,x2] 341)) w.heap.size x0 x1 x2:=heap_alloc_new w _
theorem af9(nm how v:BY)(w:WD)(hs:nm.size<=4000000)(hh:how.size<=10)(hv:v.size<=4000000):Calls prog 344 #[.agg #[.string nm,.string how,.string v]] w fun e w'=>e=.returned (.string (zN nm how v))/\Below w.heap.size w w':=by
 obtain⟨o,Ho⟩:=Nm (dP nm);have hsz:o.size<=4*nm.size:=by rw[<-Ho.o];exact fQ nm
 by_cases he:how.toList=[]
 .have hn:how=aA:=by
   have:=ay how [];rw[he]at this;exact of_decide_eq_true this.symm
  have HV:Hid (aG [⟨#[91]⟩,o,⟨#[93]⟩]=zN nm how v):=by show _=_;unfold zN;rw[if_pos hn,Ho.o];simp[aG,b1]
  clear hn;have B1:Hid (Below w.heap.size w (w.alloc (.cells #[.string nm,.string how,.string v] 341))):=bf _ _;go_in;go_wp2_with fail;generalize w.alloc (.cells #[.string nm,.string how,.string v] 341)=w2 at *;refine(oW nm _ hs).mono ?_;rw[Ho.o];rintro e w3 ⟨rfl,hb3⟩;have B3:=hid (Ay B1.o hb3);have hs3:=B3.o.size;clear hb3;go_wp2_with fail;refine pmb (dQ [⟨#[91]⟩,o,⟨#[93]⟩] w3.heap.size _ _ (row3 w3 ⟨#[91]⟩ o ⟨#[93]⟩) Aa (by show 1+(o.size+(1+0))<=_;omega)) fun w5 hb5=>?_;have B5:Hid (Below w.heap.size w w5):=(B3.o.alloc hs3 _).trans (hb5.mono Al);clear hb5;go_wp2_with fail;go_ret;exact⟨mg HV.o,B5.o⟩
 .have hn:¬how=aA:=fun e=>he (by rw[e,fC];rfl);have hie:how.toList.isEmpty=false:=by cases hq:how.toList with|nil=>exact absurd hq he|cons _ _=>rfl
  have hib:(how.toList==[])=false:=by cases hq:how.toList with|nil=>exact absurd hq he|cons _ _=>rfl
  obtain⟨tx,Gv⟩:=Nm (xG v);have hst:tx.size<=4*v.size+2:=by rw[<-Gv.o];exact Au v
  have HV:Hid (aG [⟨#[91]⟩,o,how,tx,⟨#[93]⟩]=zN nm how v):=by show _=_;unfold zN;rw[if_neg hn,Ho.o,Gv.o];simp[aG,b1]
  clear hn;have B2:Hid (Below w.heap.size w (w.alloc (.cells #[.string nm,.string how,.string v] 341)).drew):=xJ _ _;have A2:Hid (A3 (w.alloc (.cells #[.string nm,.string how,.string v] 341)).drew w.heap.size (.string nm) (.string how) (.string v)):=A3.new _ _ _ _;go_in;go_wp2_with fail;refine wp_region_any An ?_;change wpAny _ _ _ _ _ _ _ (World.drew _);generalize(w.alloc (.cells #[.string nm,.string how,.string v] 341)).drew=w2 at *;have hs2:=B2.o.size;refine wpAny_of_held (S:=fun wx=>A3 wx w.heap.size (.string nm) (.string how) (.string v)) _ _ _ _ ?_;refine dH 0 rfl A2.o (by intro w hSw;obtain⟨a0,a1,a2⟩:=hSw.cs;exact gs) ?_;refine dH 1 rfl A2.o (by intro w hSw;obtain⟨a0,a1,a2⟩:=hSw.cs;exact gs) ?_
  refine dH 3 rfl A2.o (by intro w hSw;obtain⟨a0,a1,a2⟩:=hSw.cs;exact gs) ?_;refine dH 4 rfl A2.o (by intro w hSw;obtain⟨a0,a1,a2⟩:=hSw.cs;exact gs) ?_;refine dH 5 rfl A2.o (by intro w hSw;obtain⟨a0,a1,a2⟩:=hSw.cs;exact gs) ?_;refine dH 6 rfl A2.o (by intro w hSw;obtain⟨a0,a1,a2⟩:=hSw.cs;exact gs) ?_;refine iW 2 fun K hK=>?_;go_simp;refine(oW nm _ hs).mono ?_;rw[Ho.o];rintro e w3 ⟨rfl,hb3⟩;have B3:=hid (B2.o.trans (hb3.mono hs2));have A4:=hid (A2.o.below hb3);have hs3:=B3.o.size;clear hb3;refine hK.o _ _ A4.o (fun _=>?_);clear hK K;refine iW 7 fun K hK=>?_;go_simp;refine(aci v _ hv).mono ?_;rw[Gv.o];rintro e w4 ⟨rfl,hb4⟩
  have B4:=hid (B3.o.trans (hb4.mono hs3));have A5:=hid (A4.o.below hb4);have hs4:=B4.o.size;clear hb4;refine hK.o _ _ A5.o (fun _=>?_);clear hK K;refine iW 8 fun K hK=>?_;go_simp;refine hK.o _ _ (A5.o.below (bf _ _)) (fun _=>?_);clear hK K;refine iW 9 fun K hK=>?_;go_simp;refine pmb (dQ [⟨#[91]⟩,o,how,tx,⟨#[93]⟩] w4.heap.size _ _ (amn w4 ⟨#[91]⟩ o how tx ⟨#[93]⟩) Aa (by show 1+(o.size+(how.size+(tx.size+(1+0))))<=_;omega)) fun w5 hb5=>?_;have B5:Hid (Below w.heap.size w w5):=(B4.o.alloc hs4 _).trans (hb5.mono Al);have A6:Hid (A3 w5 w.heap.size (.string nm) (.string how) (.string v)):=(A5.o.below (bf _ _)).below hb5;clear hb5;refine hK.o _ _ A6.o (fun _=>?_);clear hK K;refine iW 10 fun K hK=>?_;go_simp
  refine hK.o _ _ (A6.o) (fun _=>?_);clear hK K;refine wpAnyH_done An ?_ _;go_wp2_with fail;go_ret;exact⟨mg HV.o,B5.o⟩
end
def jD[bV](w:WD):Prop:=∀(n:Nat) (w':WD),n<=999->Below w.heap.size w w'->Calls prog 376 #[.int .i64 (n:Int)] w' fun e w''=>e=.returned (.string (H7 n))/\Below w'.heap.size w' w''
theorem jD.below[bV]{w w':WD}{g:Nat}(h:jD w)(hb:Below g w w')(hg:w.heap.size<=g):jD w':=fun n w2 hn hb2=>h n w2 hn ((hb.mono hg).trans (hb2.mono (Nat.le_trans nl hb.size)))
theorem Yx(x:BY):aG [⟨#[58,110,116,104,45,99,104,105,108,100,40]⟩,x,⟨#[41]⟩]=b1 58++(nG++(b1 40++(x++b1 41))):=by
 have e:b1 58++(nG++b1 40)=⟨#[58,110,116,104,45,99,104,105,108,100,40]⟩:=by decide
 show⟨#[58,110,116,104,45,99,104,105,108,100,40]⟩++(x++(b1 41++aG []))=_;rw[<-e,show aG []=aA from rfl,mO];simp only[ByteArray.append_assoc]
theorem aga(x:BY):aG [⟨#[58,110,111,116,40]⟩,x,⟨#[41]⟩]=b1 58++(nD++(b1 40++(x++b1 41))):=by
 have e:b1 58++(nD++b1 40)=⟨#[58,110,111,116,40]⟩:=by decide
 show⟨#[58,110,111,116,40]⟩++(x++(b1 41++aG []))=_;rw[<-e,show aG []=aA from rfl,mO];simp only[ByteArray.append_assoc]
theorem ai2(x:BY):aG [⟨#[58,105,115,40]⟩,x,⟨#[41]⟩]=b1 58++(DY++(b1 40++(x++b1 41))):=by
 have e:b1 58++(DY++b1 40)=⟨#[58,105,115,40]⟩:=by decide
 show⟨#[58,105,115,40]⟩++(x++(b1 41++aG []))=_;rw[<-e,show aG []=aA from rfl,mO];simp only[ByteArray.append_assoc]
def P2(w:WD)(b:Nat)(x0 x1:Av):Prop:=w.heap[b]?=some (.cells #[x0,x1] 351 (0,0))
theorem P2.cs{w:WD}{b:Nat}{x0 x1:Av}(h:P2 w b x0 x1):w.cell? ⟨b,0,none⟩=some x0/\w.cell? ⟨b,1,none⟩=some x1:=by have h':w.heap[b]?=_:=h;refine⟨?_,?_⟩<;>(unfold World.cell?;rw[h'];rfl)
theorem P2.new(w:WD)(x0 x1:Av):P2 (w.alloc (.cells #[x0,x1] 351)) w.heap.size x0 x1:=heap_alloc_new w _
theorem QJ(nm:BY)(w:WD)(hne:(nm.toList==[])=false)(hs:nm.size<=10):Calls prog 374 #[.agg #[.string nm,.int .i64 0]] w fun e w'=>e=.returned (.string (b1 58++(nG++(b1 40++(nm++b1 41)))))/\Below w.heap.size w w':=by
 have B1:Hid (Below w.heap.size w (w.alloc (.cells #[.string nm,.int .i64 0] 351))):=bf _ _;have V1:Hid (P2 (w.alloc (.cells #[.string nm,.int .i64 0] 351)) w.heap.size (.string nm) (.int .i64 0)):=P2.new _ _ _;have HV:Hid (aG [⟨#[58,110,116,104,45,99,104,105,108,100,40]⟩,nm,⟨#[41]⟩]=b1 58++(nG++(b1 40++(nm++b1 41)))):=Yx nm;have hie:nm.toList.isEmpty=false:=by cases hq:nm.toList with|nil=>rw[hq]at hne;cases hne|cons _ _=>rfl
 go_in;go_upto_region 1 with fail
 generalize w.alloc (.cells #[.string nm,.int .i64 0] 351)=w2 at *;have hs2:=B1.o.size;obtain⟨c0,c1⟩:=V1.o.cs;go_wp2_with fail;refine pmb (dQ [⟨#[58,110,116,104,45,99,104,105,108,100,40]⟩,nm,⟨#[41]⟩] w2.heap.size _ _ (row3 w2 _ nm _) Aa (by show 11+(nm.size+(1+0))<=_;omega)) fun w5 hb5=>?_;have B5:Hid (Below w.heap.size w w5):=(B1.o.alloc hs2 _).trans (hb5.mono Al);clear hb5;go_wp2_with fail;go_ret;exact⟨mg HV.o,B5.o⟩
theorem acu[bV](n:Nat)(w:WD)(hn:n<=999)(hI:jD w)(hd:(H7 n).size<=100):Calls prog 374 #[.agg #[.string ⟨#[]⟩,.int .i64 (n:Int)]] w fun e w'=>e=.returned (.string (b1 58++(nG++(b1 40++(H7 n++b1 41)))))/\Below w.heap.size w w':=by
 have B1:Hid (Below w.heap.size w (w.alloc (.cells #[.string ⟨#[]⟩,.int .i64 (n:Int)] 351))):=bf _ _;have V1:Hid (P2 (w.alloc (.cells #[.string ⟨#[]⟩,.int .i64 (n:Int)] 351)) w.heap.size (.string ⟨#[]⟩) (.int .i64 (n:Int))):=P2.new _ _ _;obtain⟨d,Hd⟩:=Nm (H7 n);have HI:Hid (Calls prog 376 #[.int .i64 (n:Int)] (w.alloc (.cells #[.string ⟨#[]⟩,.int .i64 (n:Int)] 351)) fun e w''=>e=.returned (.string d)/\Below (w.alloc (.cells #[.string ⟨#[]⟩,.int .i64 (n:Int)] 351)).heap.size (w.alloc (.cells #[.string ⟨#[]⟩,.int .i64 (n:Int)] 351)) w''):=by have:=hI n _ hn B1.o;rwa[Hd.o]at this
 rw[Hd.o]at hd;rw[Hd.o];have HV:Hid (aG [⟨#[58,110,116,104,45,99,104,105,108,100,40]⟩,d,⟨#[41]⟩]=b1 58++(nG++(b1 40++(d++b1 41)))):=Yx d;clear hI;go_in;go_upto_region 1 with fail
 generalize w.alloc (.cells #[.string ⟨#[]⟩,.int .i64 (n:Int)] 351)=w2 at *;have hs2:=B1.o.size;obtain⟨c0,c1⟩:=V1.o.cs;go_wp2_with fail;refine HI.o.mono ?_;rintro e w3 ⟨rfl,hb3⟩;have B3:=hid (B1.o.trans (hb3.mono hs2));have hs3:=B3.o.size;clear hb3 HI c0 c1;go_wp2_with fail;refine pmb (dQ [⟨#[58,110,116,104,45,99,104,105,108,100,40]⟩,d,⟨#[41]⟩] w3.heap.size _ _ (row3 w3 _ d _) Aa (by show 11+(d.size+(1+0))<=_;omega)) fun w5 hb5=>?_;have B5:Hid (Below w.heap.size w w5):=(B3.o.alloc hs3 _).trans (hb5.mono Al);clear hb5;go_wp2_with fail;go_ret;exact⟨mg HV.o,B5.o⟩
theorem ai3(la:Option Addr)(ll lc:Nat)(o:BY)(w:WD)(ho:o.size<=549755813888)
  (hL:∀w',Below w.heap.size w w'->Calls prog 324 #[.slice la ll lc] w' fun e w''=>e=.returned (.string o)/\Below w'.heap.size w' w''):
  Calls prog 367 #[.agg #[.slice la ll lc]] w fun e w'=>e=.returned (.string (b1 58++(nD++(b1 40++(o++b1 41)))))/\Below w.heap.size w w':=by
 have B1:Hid (Below w.heap.size w (w.alloc (.cells #[.slice la ll lc] 345))):=bf _ _;have HL:Hid (Calls prog 324 #[.slice la ll lc] (w.alloc (.cells #[.slice la ll lc] 345)) fun e w''=>e=.returned (.string o)/\Below (w.alloc (.cells #[.slice la ll lc] 345)).heap.size (w.alloc (.cells #[.slice la ll lc] 345)) w''):=hL _ B1.o;have HV:Hid (aG [⟨#[58,110,111,116,40]⟩,o,⟨#[41]⟩]=b1 58++(nD++(b1 40++(o++b1 41)))):=aga o;clear hL;go_in;go_wp2_with fail;generalize w.alloc (.cells #[.slice la ll lc] 345)=w2 at *;have hs2:=B1.o.size;refine HL.o.mono ?_;rintro e w3 ⟨rfl,hb3⟩;have B3:=hid (B1.o.trans (hb3.mono hs2));have hs3:=B3.o.size;clear hb3 HL;go_wp2_with fail;refine(dQ [⟨#[58,110,111,116,40]⟩,o,⟨#[41]⟩] w3.heap.size _ _ (row3 w3 _ o _) Aa (by show 5+(o.size+(1+0))<=_;omega)).mono ?_
 rintro e w5 ⟨rfl,hb5⟩;have B5:Hid (Below w.heap.size w w5):=(B3.o.alloc hs3 _).trans (hb5.mono Al);clear hb5;go_wp2_with fail;go_ret;exact⟨mg HV.o,B5.o⟩
theorem akY(la:Option Addr)(ll lc:Nat)(o:BY)(w:WD)(ho:o.size<=549755813888)
  (hL:∀w',Below w.heap.size w w'->Calls prog 324 #[.slice la ll lc] w' fun e w''=>e=.returned (.string o)/\Below w'.heap.size w' w''):
  Calls prog 371 #[.agg #[.slice la ll lc]] w fun e w'=>e=.returned (.string (b1 58++(DY++(b1 40++(o++b1 41)))))/\Below w.heap.size w w':=by
 have B1:Hid (Below w.heap.size w (w.alloc (.cells #[.slice la ll lc] 346))):=bf _ _;have HL:Hid (Calls prog 324 #[.slice la ll lc] (w.alloc (.cells #[.slice la ll lc] 346)) fun e w''=>e=.returned (.string o)/\Below (w.alloc (.cells #[.slice la ll lc] 346)).heap.size (w.alloc (.cells #[.slice la ll lc] 346)) w''):=hL _ B1.o;have HV:Hid (aG [⟨#[58,105,115,40]⟩,o,⟨#[41]⟩]=b1 58++(DY++(b1 40++(o++b1 41)))):=ai2 o;clear hL;go_in;go_wp2_with fail;generalize w.alloc (.cells #[.slice la ll lc] 346)=w2 at *;have hs2:=B1.o.size;refine HL.o.mono ?_;rintro e w3 ⟨rfl,hb3⟩;have B3:=hid (B1.o.trans (hb3.mono hs2));have hs3:=B3.o.size;clear hb3 HL;go_wp2_with fail;refine(dQ [⟨#[58,105,115,40]⟩,o,⟨#[41]⟩] w3.heap.size _ _ (row3 w3 _ o _) Aa (by show 4+(o.size+(1+0))<=_;omega)).mono ?_
 rintro e w5 ⟨rfl,hb5⟩;have B5:Hid (Below w.heap.size w w5):=(B3.o.alloc hs3 _).trans (hb5.mono Al);clear hb5;go_wp2_with fail;go_ret;exact⟨mg HV.o,B5.o⟩
mutual
def zS:Simple->Nat
 |.mk _ nm how v l _=>4*nm.size+4*v.size+how.size+120+zL l
def zA:List Simple->Nat
 |[]=>0
 |s::r=>zS s+zA r
def zT:Nat×List Simple->Nat
 |(_,all)=>3+zA all
def zC:List (Nat×List Simple)->Nat
 |[]=>0
 |t::r=>zT t+zC r
def zL:List (List (Nat×List Simple))->Nat
 |[]=>0
 |c::r=>1+zC c+zL r
end
theorem VH(nm how v:BY):(zN nm how v).size<=4*nm.size+4*v.size+how.size+4:=by
 have h1:=fQ nm;have h2:=Au v;have e:∀(c:UInt8),(b1 c).size=1:=fun _=>rfl;unfold zN;split
 .rw[ByteArray.size_append,ByteArray.size_append,e,e];omega
 .rw[ByteArray.size_append,ByteArray.size_append,ByteArray.size_append,ByteArray.size_append,e,e];omega
theorem VI(b:Nat):(tV b).size<=3:=by
 unfold tV;split
 .show 1<=3;omega
 .split
  .show 3<=3;omega
  .show 0<=3;omega
def jm[bV]:Prop:=∀n,n<=1000->(H7 n).size<=100
mutual
theorem aaf[bV](hd:jm):∀(s:Simple),qkS s->(Am s).size<=zS s
 |.mk k nm how v l p,hq=>by
  have h1:=fQ nm;have h2:=VH nm how v;have e:∀(c:UInt8),(b1 c).size=1:=fun _=>rfl;simp only[qkS]at hq;have h3:=Iq hd l hq.2;have hp:=hq.1.place;unfold Am zS;by_cases k1:k=116
  .rw[if_pos k1];split
   .rw[e];omega
   .omega
  rw[if_neg k1];by_cases k2:k=35
  .rw[if_pos k2,ByteArray.size_append,e];omega
  rw[if_neg k2];by_cases k3:k=46
  .rw[if_pos k3,ByteArray.size_append,e];omega
  rw[if_neg k3];by_cases k4:k=91
  .rw[if_pos k4];omega
  rw[if_neg k4];by_cases k5:nm=nD\/nm=DY
  .rw[if_pos k5];simp only[ByteArray.size_append,e];omega
  rw[if_neg k5];by_cases k6:nm=nG
  .rw[if_pos k6];have h4:(if p=0 then sZ else if p=1 then l7 else H7 (p-2)).size<=100:=by
    split
    .show 3<=100;omega
    .split
     .show 4<=100;omega
     .exact hd _ oo
   simp only[ByteArray.size_append,e];omega
  rw[if_neg k6,ByteArray.size_append,e];omega
theorem MN[bV](hd:jm):∀(l:List Simple),CP l->(vw l).size<=zA l
 |[],_=>by unfold vw;show 0<=_;omega
 |s::r,hq=>by simp only[CP]at hq;unfold vw zA;have:=aaf hd s hq.1;have:=MN hd r hq.2;rw[ByteArray.size_append];omega
theorem MO[bV](hd:jm):∀(t:Nat×List Simple),CP t.2->(ab9 t).size<=zT t
 |(b,all),hq=>by unfold ab9 zT;have:=VI b;have:=MN hd all hq;rw[ByteArray.size_append];omega
theorem MP[bV](hd:jm):∀(c:List (Nat×List Simple)),qkR c->(dW c).size<=zC c
 |[],_=>by unfold dW;show 0<=_;omega
 |(b,all)::r,hq=>by simp only[qkR]at hq;unfold dW zC;have:=MO hd (b,all) hq.2.1;have:=MP hd r hq.2.2;rw[ByteArray.size_append];omega
theorem qL[bV](hd:jm):∀(c:List (Nat×List Simple)),qkC c->(dW c).size<=zC c
 |[],hq=>by simp only[qkC]at hq
 |(b,all)::r,hq=>by simp only[qkC]at hq;unfold dW zC;have:=MO hd (b,all) hq.2.1;have:=MP hd r hq.2.2;rw[ByteArray.size_append];omega
theorem Iq[bV](hd:jm):∀(l:List (List (Nat×List Simple))),CO l->(jV aA l).size<=zL l
 |[],_=>by unfold jV;show 0<=_;omega
 |c::r,hq=>by simp only[CO]at hq;unfold jV zL;have:=qL hd c hq.1;have:=Ir hd r hq.2;have e:aA.size=0:=rfl;rw[ByteArray.size_append,ByteArray.size_append,e];omega
theorem Ir[bV](hd:jm):∀(l:List (List (Nat×List Simple))),CO l->(qC aA l).size<=zL l
 |[],_=>by unfold qC;show 0<=_;omega
 |c::r,hq=>by simp only[CO]at hq;unfold qC zL;have:=qL hd c hq.1;have:=Ir hd r hq.2;have e:aA.size=0:=rfl;have e2:(b1 44).size=1:=rfl;rw[ByteArray.size_append,ByteArray.size_append,ByteArray.size_append,e,e2];omega
end
section
attribute [local go_sem] bI bJ aX aY
def aag(d:List Nd):Option Nat:=match d with|[v]=>placeOf v.t|_=>none
def zD(l:List Nd):Option Nat:=aag (bare l)
theorem Ep(lv:Av)(p:Nat):fE 58 nG aA aA lv p=.iface 351 (if p=0 then .agg #[.string sZ,.int .i64 0] else if p=1 then .agg #[.string l7,.int .i64 0] else .agg #[.string aA,.int .i64 ((p-2:Nat):Int)]):=by unfold fE;rw[if_neg oo,if_neg oo,if_neg oo,if_neg oo,if_neg (by decide),if_neg (by decide),if_pos rfl]
theorem aah{s:BY}(h0:0<s.size)(h:fG (pk s 0)=false):oN 0 s.data.toList=none:=by
 have e:∃c r,s.data.toList=c::r:=by
  cases hl:s.data.toList with
  |nil=>
   have:s.data.toList.length=s.size:=by simp
   rw[hl]at this;simp at this;omega
  |cons c r=>exact⟨c,r,rfl⟩
 obtain⟨c,r,e⟩:=e;have hp:pk s 0=(c.toNat:Int):=by rw[Yw h0];simp[e]
 rw[e];unfold oN;rw[hp]at h;rw[if_neg];rintro ⟨h1,h2,_⟩;simp[fG]at h;omega
theorem QO(B:Nat)(l:List Nd)(v:Av)(w:WD)(h:Sl (fun b=>b<B) w v l)(hB:B<=w.heap.size):
  Calls prog 306 #[v] w fun e w'=>((zD l=none/\∃pv,e=.returned (.tuple #[pv,.bool false]))\/∃p,zD l=some p/\e=.returned (.tuple #[fE 58 nG aA aA (.slice none 0 0) p,.bool true]))/\Below w.heap.size w w':=by
 have HS:=hid h;clear h;obtain⟨d,Hd⟩:=Nm (bare l);have HP:Hid (zD l=aag d):=by show _=_;unfold zD;rw[Hd.o]
 obtain⟨a,cap,rfl⟩:=HS.o.form;go_in;go_wp2_with fail;refine(tu B l _ w HS.o).mono ?_;rw[Hd.o];rintro e w1 ⟨v1,rfl,hS1,rfl⟩;have S1:=hid hS1;clear hS1 HS;by_cases h1:∃x,d=[x]
 .obtain⟨x,rfl⟩:=h1;obtain⟨g,o,kv,cp,rfl,hN,hcp⟩:=S1.o.head;obtain⟨ka,kc,rfl⟩:=hN.k.form;have d0:=hN.c0;have d1:=hN.c1;have d2:=hN.c2;have d3:=hN.c3;have VJ:=hid hN.ok;have hg:g<w1.heap.size:=by have:g<B:=hN.s;omega
  clear hN S1;have A2:Hid (VB (w1.alloc (.cells #[.int .i64 x.t.kind,.string x.t.word,.string x.t.unit,.slice ka x.kids.length kc] 199)) w1.heap.size (.int .i64 x.t.kind) (.string x.t.word) (.string x.t.unit) (.slice ka x.kids.length kc)):=VB.new _ _ _ _ _;have B2:Hid (Below w1.heap.size w1 (w1.alloc (.cells #[.int .i64 x.t.kind,.string x.t.word,.string x.t.unit,.slice ka x.kids.length kc] 199))):=As.alloc nl _;have hz:(((([]:List Nd).length:Nat):Int)+1 != 1)=false:=by simp
  simp only[List.length_nil]at *;go_upto_region 5 with fail
  generalize w1.alloc (.cells #[.int .i64 x.t.kind,.string x.t.word,.string x.t.unit,.slice ka x.kids.length kc] 199)=w2 at *;obtain⟨gt,mV⟩:=Nm w1.heap.size;have A3:Hid (VB w2 gt (.int .i64 x.t.kind) (.string x.t.word) (.string x.t.unit) (.slice ka x.kids.length kc)):=by rw[<-mV.o];exact A2
  rw[mV.o];clear A2 d0 d1 d2 d3;obtain⟨a0,a1,a2,a3⟩:=A3.o.cs;have hwd:=VJ.o.word;cases hk5:(x.t.kind==5)
  .cases FX:(x.t.kind==14)
   .have HV:Hid (zD l=none):=by
     show _=_;rw[HP.o];simp at hk5 FX;simp[aag,placeOf,hk5,FX]
    go_wp2_with fail;go_ret2
    exact⟨.inl ⟨HV.o,_,rfl⟩,B2.o⟩
   .have e14:x.t.kind=14:=by simpa using FX
    have HV:Hid (zD l=if small x.t.word=l7 then some 1 else if small x.t.word=sZ then some 0 else none):=by show _=_;rw[HP.o];simp only[aag,placeOf,if_pos e14]
    clear e14;obtain⟨nm,Aw⟩:=Nm (small x.t.word);rw[Aw.o]at HV;go_wp2_with fail;refine(nH x.t.word _ oo).mono ?_;rw[Aw.o];rintro e w3 ⟨rfl,hb3⟩;have B3:=hid (Ay B2.o hb3);clear hb3;cases ho:(nm.toList==[111,100,100])
    .cases hv:(nm.toList==[101,118,101,110])
     .have HN:Hid (zD l=none):=by
       show _=_;rw[ay]at ho hv;have h1:¬nm=l7:=by simpa[l7]using hv
       have h2:¬nm=sZ:=by simpa[sZ]using ho
       rw[HV.o,if_neg h1,if_neg h2]
      go_wp2_with fail;go_ret2
      exact⟨.inl ⟨HN.o,_,rfl⟩,B3.o⟩
     .have h1:nm=l7:=by rw[ay]at hv;simpa[l7]using hv
      have HN:Hid (zD l=some 1):=by show _=_;rw[HV.o,if_pos h1]
      have H1:=hid h1;clear h1;go_wp2_with fail;go_ret2
      exact⟨.inr ⟨1,HN.o,by rw[Ep,H1.o];rfl⟩,B3.o⟩
    .have h1:nm=sZ:=by rw[ay]at ho;simpa[sZ]using ho
     have HN:Hid (zD l=some 0):=by show _=_;rw[HV.o,h1];rfl
     have H1:=hid h1;clear h1;go_wp2_with fail;go_ret2
     exact⟨.inr ⟨0,HN.o,by rw[Ep,H1.o];rfl⟩,B3.o⟩
  .have e5:x.t.kind=5:=by simpa using hk5
   have HV:Hid (zD l=(oN 0 x.t.word.data.toList).map (· + 2)):=by
    show _=_;rw[HP.o];have h0:=VJ.o.num e5;simp only[aag,placeOf];rw[if_neg oo];by_cases hd:fG (pk x.t.word 0)=true
    .rw[if_pos ⟨e5,hd⟩]
    .rw[if_neg (fun q=>hd q.2),aah h0 (by simpa using hd)];rfl
   clear e5;go_wp2_with fail;refine(Oy x.t.word _ hwd).mono ?_;rintro e w3 ⟨hr,rfl⟩;rcases hr with⟨hn,rfl⟩|⟨k,hn,rfl⟩
   .have HN:Hid (zD l=none):=by show _=_;rw[HV.o,hn];rfl
    clear hn;go_wp2_with fail;go_ret2
    exact⟨.inl ⟨HN.o,_,rfl⟩,B2.o⟩
   .have HN:Hid (zD l=some (k+2)):=by show _=_;rw[HV.o,hn];rfl
    clear hn;go_wp2_with fail;go_ret2
    exact⟨.inr ⟨k+2,HN.o,by rw[Ep,if_neg oo,if_neg oo];rfl⟩,B2.o⟩
 .have HV:Hid (zD l=none):=by
   show _=_;rw[HP.o];match d,h1 with
   |[],_=>rfl
   |[x],h1=>exact absurd ⟨x,rfl⟩ h1
   |_::_::_,_=>rfl
  have hne:((d.length:Int) != 1)=true:=by
   simp;intro e;apply h1
   match d,e with
   |[x],_=>exact⟨x,rfl⟩
  obtain⟨a1,c1,rfl⟩:=S1.o.form;have hl3:=S1.o.len;clear h1 HP;go_wp2_with fail;go_ret2
  exact⟨.inl ⟨HV.o,_,rfl⟩,As⟩
end
