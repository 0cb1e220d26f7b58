import Derived.Test.YtlliliddljkbfaaGreatDoorC1
import Derived.Test.YtlliliddljkbfaaGreatDoorC3
import Derived.Test.YtlliliddljkbfaaGreatDoorC4
import Derived.Deep.DeepCutAuto
import Derived.Deep.Light
import Derived.Test.YtlliliddljkbfaaGreatDoorRows
import Derived.WalkKit
import Derived.WalkSpells
import Derived.WalkLawsBesides
import Derived.Laws.IdiomStrings
import Derived.Deep.AppendSrc
import Derived.Deep.LoopGhost
namespace Go.Proofs.YtlliliddljkbfaaGreatDoor
set_option maxHeartbeats 64000000
set_option maxRecDepth 100000
open Go.Proofs.Tryz (prog)
open Go.RowKit Sp
section
theorem dH(a b c d:Value)(w:World):(Instr.field 168 (.agg #[a,b,c,d]) 0).run prog w=.ok (.agg #[a,b,c]) w:=by kernel_rfl
theorem dI(a b c d:Value)(w:World):(Instr.field 168 (.agg #[a,b,c,d]) 1).run prog w=.ok d w:=by kernel_rfl
theorem bQ(a b c:Value)(w:World):(Instr.field 68 (.agg #[a,b,c]) 0).run prog w=.ok a w:=by kernel_rfl
theorem bT(a b c:Value)(w:World):(Instr.field 68 (.agg #[a,b,c]) 1).run prog w=.ok b w:=by kernel_rfl
attribute [local go_sem] dH dI bQ bT
structure iw(B:Nat)(w:World)(b:Nat)(sv:Value)(l:List Nd):Prop where
 blk:w.heap[b]?=some (.cells #[sv] 262 (0,0))
 sl:Sl (fun k=>k<B) w sv l
 lo:B<=b
theorem Turn.trans'{c:Nat}{w wr w':World}(h:Turn c w wr)(hb:Below w.heap.size wr w'):Turn c w w':=⟨hb.os.trans h.os,hb.tape.trans h.tape,hb.output.trans h.output,Nat.le_trans h.size hb.size,fun k hk hc=>(hb.block k hk).trans (h.block k hk hc)⟩
section
variable {B:Nat} {w w':World} {b:Nat} {sv sv':Value} {l l':List Nd}
theorem iw.lt(h:iw B w b sv l):b<w.heap.size:=(Array.getElem?_eq_some_iff.1 h.blk).1
theorem iw.c0(h:iw B w b sv l):w.cell? ⟨b,0,none⟩=some sv:=by unfold World.cell?;rw[h.blk];rfl
theorem iw.f0(h:iw B w b sv l):w.frozen? ⟨b,0,none⟩=false:=by unfold World.frozen?;rw[h.blk];rfl
theorem iw.below(h:iw B w b sv l)(hb:Below w.heap.size w w'):iw B w' b sv l:=⟨by rw[hb.block b h.lt];exact h.blk,h.sl.below hb (by have:=h.lt;have:=h.lo;omega),h.lo⟩
theorem iw.turn(h:iw B w b sv l){c:Nat}(hb:Turn c w w')(hc:b<c):iw B w' b sv l:=⟨by rw[hb.block b h.lt oo];exact h.blk,h.sl.keep (fun _ hg=>hg) (fun g hg=>by have hg':g<B:=hg;have:=h.lo;have:=h.lt;exact hb.block g oo oo),h.lo⟩
theorem iw.alloc(h:iw B w b sv l)(o:Obj):iw B (w.alloc o) b sv l:=h.below ((Below.refl _ _).alloc nl _)
theorem iw.set(h:iw B w b sv l)(hs:Sl (fun k=>k<B) w sv' l'):iw B (w.setCell ⟨b,0,none⟩ sv') b sv' l':=by refine⟨?_,hs.keep (fun _ hg=>hg) (fun g hg=>Below.heap_setCell _ _ _ _ (by have hg':g<B:=hg;have:=h.lo;show g≠b;omega)),h.lo⟩;simp only[World.setCell,Array.getElem?_modify,h.blk];simp
theorem iw.far(h:iw B w b sv l){k:Nat}(hk:b<k)(o:Nat)(u:Value):iw B (w.setCell ⟨k,o,none⟩ u) b sv l:=⟨by rw[Below.heap_setCell _ _ _ _ (by show b≠k;omega)];exact h.blk,h.sl.keep (fun _ hg=>hg) (fun g hg=>Below.heap_setCell _ _ _ _ (by have hg':g<B:=hg;have:=h.lo;show g≠k;omega)),h.lo⟩
theorem Turn.far{c:Nat}(h:Turn c w w'){k:Nat}(hk:w.heap.size<=k)(o:Nat)(u:Value):Turn c w (w'.setCell ⟨k,o,none⟩ u):=h.trans' ⟨rfl,rfl,rfl,by simp[World.setCell],fun j hj=>Below.heap_setCell _ _ _ _ (by show j≠k;omega)⟩
theorem Sl.far{v:Value}{k:Nat}(h:Sl (fun b=>b<B) w v l)(hk:B<=k)(o:Nat)(u:Value):Sl (fun b=>b<B) (w.setCell ⟨k,o,none⟩ u) v l:=h.keep (fun _ hg=>hg) (fun g hg=>Below.heap_setCell _ _ _ _ (by have hg':g<B:=hg;show g≠k;omega))
theorem iw.len(h:iw B w b sv l):l.length<=600:=h.sl.len
end
def VB(w:World)(b:Nat)(x0 x1 x2 x3:Value):Prop:=w.heap[b]?=some (.cells #[x0,x1,x2,x3] 168 (0,0))
section
variable {w w':World} {b:Nat} {x0 x1 x2 x3:Value}
theorem VB.lt(h:VB w b x0 x1 x2 x3):b<w.heap.size:=(Array.getElem?_eq_some_iff.1 h).1
theorem VB.cs(h:VB w b x0 x1 x2 x3):w.cell? ⟨b,0,none⟩=some x0/\w.cell? ⟨b,1,none⟩=some x1/\w.cell? ⟨b,2,none⟩=some x2/\w.cell? ⟨b,3,none⟩=some x3:=by have h':w.heap[b]?=_:=h;refine⟨?_,?_,?_,?_⟩<;>(unfold World.cell?;rw[h'];rfl)
theorem VB.fz(h:VB w b x0 x1 x2 x3)(o:Nat):w.frozen? ⟨b,o,none⟩=false:=by have h':w.heap[b]?=_:=h;unfold World.frozen?;rw[h'];simp
theorem VB.below(h:VB w b x0 x1 x2 x3)(hb:Below w.heap.size w w'):VB w' b x0 x1 x2 x3:=by show _=_;rw[hb.block b h.lt];exact h
theorem VB.turn(h:VB w b x0 x1 x2 x3){c:Nat}(hb:Turn c w w')(hc:b≠c):VB w' b x0 x1 x2 x3:=by show _=_;rw[hb.block b h.lt hc];exact h
theorem VB.alloc(h:VB w b x0 x1 x2 x3)(o:Obj):VB (w.alloc o) b x0 x1 x2 x3:=h.below ((Below.refl _ _).alloc nl _)
theorem VB.new(w:World)(x0 x1 x2 x3:Value):VB (w.alloc (.cells #[x0,x1,x2,x3] 168)) w.heap.size x0 x1 x2 x3:=heap_alloc_new w _
end
def hdN:List Nd->Nd
 |[]=>.mk (Tok.k 0) []
 |n::_=>n
theorem sJ(B b:Nat)(sv:Value)(l:List Nd)(w:World)(h:iw B w b sv l):
  Calls prog 189 #[.pointer (some ⟨b,0,none⟩)] w fun e w'=>e=.returned (.bool (l.length==0))/\w'=w:=by
 obtain⟨a,cap,rfl⟩:=h.sl.form;have c0:=h.c0;have hl:=h.len;clear h;have HV:Hid (((l.length:Int)==0)=(l.length==0)):=by show _=_;rw[Bool.eq_iff_iff];simp
 go_in;go_wp2_with fail;go_ret;exact⟨aI HV.o,rfl⟩
theorem Ef(B b:Nat)(sv:Value)(l:List Nd)(w:World)(h:iw B w b sv l):
  Calls prog 247 #[.pointer (some ⟨b,0,none⟩)] w fun e w'=>∃kv,e=.returned (dM (hdN l).t kv)/\Sl (fun k=>k<B) w' kv (hdN l).kids/\Below w.heap.size w w':=by
 have R1:∀o,Hid (iw B (w.alloc o) b sv l):=fun o=>h.alloc o;have hlo:=h.lo;have hlt:=h.lt;cases l with
 |nil=>clear h;go_in;go_wp2_with fail;refine(sJ B b sv [] _ (R1 _).o).mono ?_;rintro e w1 ⟨rfl,rfl⟩;go_wp2_with fail;refine bodyPost_ret (v:=dM (Tok.k 0) (.slice none 0 0)) (by simp[results,Tryz.results247,go_sem,dM,Tok.k];rfl) rfl ?_;exact⟨_,rfl,Sl.nil _ _,(Below.refl _ _).alloc nl _⟩
 |cons n r=>
  obtain⟨g,o,kv,cap,rfl,hN,hcap⟩:=h.sl.head;have hgB:g<B:=hN.s;have HN:Hid (lZ (fun k=>k<B) w n g o kv):=hN;have hrl:=h.len;simp only[List.length_cons]at hrl;have hn0:¬((r.length:Int)+1<=0):=oo;clear h hN;go_in;go_wp2_with fail;refine(sJ B b _ (n::r) _ (R1 _).o).mono ?_;rintro e w1 ⟨rfl,rfl⟩;have c0:=(R1 (.cells #[.int .i64 0,.string ⟨#[]⟩,.string ⟨#[]⟩,.slice none 0 0] 168)).o.c0;have N1:=HN.o.below ((Below.refl B w).alloc (show B<=w.heap.size by omega) (.cells #[.int .i64 0,.string ⟨#[]⟩,.string ⟨#[]⟩,.slice none 0 0] 168));have d0:=N1.c0;have d1:=N1.c1;have d2:=N1.c2;have d3:=N1.c3;obtain⟨ka,kc,rfl⟩:=HN.o.k.form;go_wp2_with fail;refine bodyPost_ret (v:=dM n.t (.slice ka n.kids.length kc)) (by simp[results,Tryz.results247,go_sem,dM]) rfl ?_
  exact⟨_,rfl,HN.o.k.below ((Below.refl w.heap.size w).alloc nl _) oo,(Below.refl _ _).alloc nl _⟩
theorem zy:∃i,prog.info? 168=some i/\i.zero=some (.agg #[.int .i64 0,.string ⟨#[]⟩,.string ⟨#[]⟩,.slice none 0 0])/\i.size=4/\i.bytes=64:=info_parts (by kernel_rfl)
theorem Sl.IC{S:Nat->Prop}{w:World}{a:Option Addr}{n cap:Nat}{x:Nd}{r:List Nd}(h:Sl S w (.slice a n cap) (x::r)):
  ∃a',(∀W:World,(Instr.slice 111 (.slice a (r.length+1) cap) (some (.int .i64 1)) none none).run prog W=.ok (.slice a' r.length (cap-1)) W)/\Sl S w (.slice a' r.length (cap-1)) r:=by
 obtain⟨iT,h1,_,h3,_⟩:=zy;refine⟨if cap=1 then a else a.map (·.add (1*4)),fun W=>?_,?_⟩
 .rw[run_slice_l (P:=prog) W 111 a (r.length+1) cap Tryz.underlying111 .i64 1 oo oo];have e:prog.elem 111=168:=by kernel_rfl
  simp[sizeOf,typeInfo,e,h1,h3,sliced,Result.andThen]
 .have:=h.cut 1 (r.length+1) oo (by simp);simpa[sliced]using this
theorem qE(B b:Nat)(sv:Value)(l:List Nd)(w:World)(h:iw B w b sv l):
  Calls prog 248 #[.pointer (some ⟨b,0,none⟩)] w fun e w'=>∃kv sv',e=.returned (dM (hdN l).t kv)/\Sl (fun k=>k<B) w' kv (hdN l).kids/\iw B w' b sv' l.tail/\Turn b w w':=by
 have R1:∀o,Hid (iw B (w.alloc o) b sv l):=fun o=>h.alloc o;have hlo:=h.lo;have hlt:=h.lt;have Cc:=h.len;clear h;have T1:∀o,Hid (Turn b w (w.alloc o)):=fun o=>(Turn.refl b w).alloc o;have z1:∀o,w.heap.size<(w.alloc o).heap.size:=fun o=>by simp
 go_in;go_wp2_with fail;generalize hW:w.alloc (.cells #[.int .i64 0,.string ⟨#[]⟩,.string ⟨#[]⟩,.slice none 0 0] 168)=w1 at *;have R2:Hid (iw B w1 b sv l):=by rw[<-hW];exact R1 _
 have T2:Hid (Turn b w w1):=by rw[<-hW];exact T1 _
 have Z2:Hid (w1.heap[w.heap.size]?=some (.cells #[.int .i64 0,.string ⟨#[]⟩,.string ⟨#[]⟩,.slice none 0 0] 168 (0,0))):=by rw[<-hW];exact heap_alloc_new w _
 clear hW R1 T1 z1;obtain⟨gr,Hgr⟩:∃gr,Hid (w.heap.size=gr):=⟨_,hid rfl⟩;rw[Hgr.o]at Z2⊢;have Z2':Hid (VB w1 gr (.int .i64 0) (.string ⟨#[]⟩) (.string ⟨#[]⟩) (.slice none 0 0)):=Z2;clear Z2;refine(Ef B b sv l _ R2.o).mono ?_;rintro e w2 ⟨kv,rfl,hk,hb2⟩;have R3:Hid (iw B w2 b sv l):=R2.o.below hb2;have T3:Hid (Turn b w w2):=T2.o.trans (Turn.of_below hb2);have Z3:Hid (VB w2 gr (.int .i64 0) (.string ⟨#[]⟩) (.string ⟨#[]⟩) (.slice none 0 0)):=Z2'.o.below hb2;obtain⟨n,Hn⟩:∃n,Hid (hdN l=n):=⟨_,hid rfl⟩;rw[Hn.o]at hk⊢;obtain⟨ka,kc,rfl⟩:=hk.form;have uD:Hid (Sl (fun k=>k<B) w2 (.slice ka n.kids.length kc) n.kids):=hk;clear hk hb2 R2 T2 Z2';unfold dM
 have A4:Hid (VB (w2.alloc (.cells #[.int .i64 n.t.kind,.string n.t.word,.string n.t.unit,.slice ka n.kids.length kc] 168)) w2.heap.size (.int .i64 n.t.kind) (.string n.t.word) (.string n.t.unit) (.slice ka n.kids.length kc)):=VB.new _ _ _ _ _;have R4:Hid (iw B (w2.alloc (.cells #[.int .i64 n.t.kind,.string n.t.word,.string n.t.unit,.slice ka n.kids.length kc] 168)) b sv l):=R3.o.alloc _;have T4:Hid (Turn b w (w2.alloc (.cells #[.int .i64 n.t.kind,.string n.t.word,.string n.t.unit,.slice ka n.kids.length kc] 168))):=T3.o.alloc _;have Z4:Hid (VB (w2.alloc (.cells #[.int .i64 n.t.kind,.string n.t.word,.string n.t.unit,.slice ka n.kids.length kc] 168)) gr (.int .i64 0) (.string ⟨#[]⟩) (.string ⟨#[]⟩) (.slice none 0 0)):=Z3.o.alloc _
 have K4:Hid (Sl (fun k=>k<B) (w2.alloc (.cells #[.int .i64 n.t.kind,.string n.t.word,.string n.t.unit,.slice ka n.kids.length kc] 168)) (.slice ka n.kids.length kc) n.kids):=uD.o.below ((Below.refl w2.heap.size w2).alloc nl _) (by have:=R3.o.lt;omega);have hgz:gr<w2.heap.size:=Z3.o.lt;have hbz:b<w2.heap.size:=R3.o.lt;have hbg:¬b=gr:=by have:=Hgr.o;omega
 clear R3 T3 Z3 uD;go_upto_region 2 with fail
 generalize w2.alloc (.cells #[.int .i64 n.t.kind,.string n.t.word,.string n.t.unit,.slice ka n.kids.length kc] 168)=w4 at *;generalize w2.heap.size=gt at *;go_wp2_with fail;refine(sJ B b sv l _ R4.o).mono ?_;rintro e w5 ⟨rfl,rfl⟩;obtain⟨a0,a1,a2,a3⟩:=A4.o.cs;have z0:=Z4.o.fz 0;have z1:=Z4.o.fz 1;have z2:=Z4.o.fz 2;have z3:=Z4.o.fz 3;obtain⟨y0,y1,y2,y3⟩:=Z4.o.cs;have hgg:¬gt=gr:=oo;have hbt:¬b=gt:=oo;cases l with
 |nil=>go_wp2_with fail;refine bodyPost_ret (v:=dM n.t (.slice ka n.kids.length kc)) (by simp[results,Tryz.results248,go_sem,dM,y0,y1,y2,y3]) rfl ?_;have hgr:=Hgr.o;exact⟨_,sv,by rw[Hn.o],by rw[Hn.o];exact(((K4.o.far oo _ _).far oo _ _).far oo _ _).far oo _ _,(((R4.o.far oo _ _).far oo _ _).far oo _ _).far oo _ _,(((T4.o.far oo _ _).far oo _ _).far oo _ _).far oo _ _⟩
 |cons m r=>obtain⟨g,o,kv2,cap,rfl,hN,hcap⟩:=R4.o.sl.head;obtain⟨a',hcut,hS⟩:=R4.o.sl.IC;have c0:=R4.o.c0;have f0:=R4.o.f0;simp only[List.length_cons]at Cc;go_wp2_with fail;have R6:=R4.o.set hS;refine bodyPost_ret (v:=dM n.t (.slice ka n.kids.length kc)) (by simp[results,Tryz.results248,go_sem,dM,y0,y1,y2,y3]) rfl ?_;have hgr:=Hgr.o;exact⟨_,_,by rw[Hn.o],by rw[Hn.o];exact((((K4.o.far oo _ _).far oo _ _).far oo _ _).far oo _ _).far oo _ _,(((R6.far oo _ _).far oo _ _).far oo _ _).far oo _ _,((((T4.o.setCell _ _).far oo _ _).far oo _ _).far oo _ _).far oo _ _⟩
def wO(s:ByteArray)(l:List Nd):List Nd:=if ay (hdN l).t s=true then l.tail else l
theorem vX{s:ByteArray}{l:List Nd}(h:ay (hdN l).t s=false):wO s l=l:=by unfold wO;rw[h];rfl
theorem pW{s:ByteArray}{l:List Nd}(h:ay (hdN l).t s=true):wO s l=l.tail:=by unfold wO;rw[if_pos h]
theorem oq(B b:Nat)(sv:Value)(l:List Nd)(s:ByteArray)(w:World)(h:iw B w b sv l):
  Calls prog 249 #[.pointer (some ⟨b,0,none⟩),.string s] w fun e w'=>∃sv',e=.returned (.bool (ay (hdN l).t s))/\iw B w' b sv' (wO s l)/\Turn b w w':=by
 have R1:Hid (iw B w b sv l):=h;clear h;go_in;go_wp2_with fail;refine(Ef B b sv l _ R1.o).mono ?_;rintro e w1 ⟨kv,rfl,_,hb1⟩;have R2:Hid (iw B w1 b sv l):=R1.o.below hb1;have T2:Hid (Turn b w w1):=Turn.of_below hb1;clear hb1 R1;go_wp2_with fail;refine pmb (jU _ kv s _) fun w2 hb2=>?_;have R3:Hid (iw B w2 b sv l):=R2.o.below hb2;have T3:Hid (Turn b w w2):=T2.o.trans (Turn.of_below hb2);clear hb2 R2 T2;obtain⟨c,Hc⟩:∃c,Hid (ay (hdN l).t s=c):=⟨_,hid rfl⟩;rw[Hc.o];cases c
 .go_wp2_with fail;go_ret;exact⟨_,aI Hc.o.symm,by rw[vX Hc.o];exact R3.o,T3.o⟩
 .go_wp2_with fail;refine(qE B b sv l _ R3.o).mono ?_;rintro e w4 ⟨kv4,Vp,rfl,_,SN,Vq⟩;have R5:Hid (iw B w4 b Vp l.tail):=SN;have T5:Hid (Turn b w w4):=T3.o.trans Vq;clear SN Vq;go_wp2_with fail;go_ret;exact⟨_,aI Hc.o.symm,by rw[pW Hc.o];exact R5.o,T5.o⟩
theorem vY(B b:Nat)(sv:Value)(l:List Nd)(w:World)(h:iw B w b sv l):
  Calls prog 252 #[.pointer (some ⟨b,0,none⟩)] w fun e w'=>∃sv',e=.returned (.bool (decide ((aC l).length<l.length)))/\iw B w' b sv' (aC l)/\Turn b w w':=by
 have R1:Hid (iw B w b sv l):=h;clear h;go_in;go_wp2_with fail;go_loopg[3] l.length (fun g v3 wr=>∃(cur:List Nd) (sv:Value) (p:Bool),v3=.bool p/\g=cur.length/\Aside (iw B wr b sv cur/\Turn b w wr/\aC cur=aC l/\cur.length<=l.length/\p=decide (cur.length<l.length)));case atStart=>exact⟨l,sv,false,rfl,rfl,R1.o,Turn.refl _ _,rfl,Nat.le_refl _,by simp⟩
 case round=>
  obtain⟨cur,sv,p,rfl,rfl,hA⟩:=hrel;have R2:Hid (iw B wr b sv cur):=hA.o.1;have T2:Hid (Turn b w wr):=hA.o.2.1;have HD:Hid (aC cur=aC l):=hA.o.2.2.1;have HL:Hid (cur.length<=l.length/\p=decide (cur.length<l.length)):=hA.o.2.2.2;clear hA R1;go_wp2_with fail;refine(Ef B b sv cur _ R2.o).mono ?_;rintro e w1 ⟨kv,rfl,_,hb1⟩;have R3:Hid (iw B w1 b sv cur):=R2.o.below hb1;have T3:Hid (Turn b w w1):=T2.o.trans (Turn.of_below hb1);clear hb1 R2 T2;unfold dM;cases hk:((hdN cur).t.kind==1)
  .have HE:Hid (aC l=cur):=by
    show _=_;rw[<-HD.o];cases cur with
    |nil=>rfl
    |cons n r=>exact jo (by simpa[hdN]using hk)
   have HV:Hid (p=decide ((aC l).length<l.length)):=by show _=_;rw[HE.o];exact HL.o.2
   go_wp2_with fail;go_ret;exact⟨_,aI HV.o,by rw[HE.o];exact R3.o,T3.o⟩
  .obtain⟨n,r,rfl,hn⟩:∃n r,cur=n::r/\n.t.kind=1:=by
    cases cur with
    |nil=>simp[hdN,Tok.k]at hk
    |cons n r=>exact⟨n,r,rfl,by simpa[hdN]using hk⟩
   have HD2:Hid (aC r=aC l):=by show _=_;rw[<-HD.o,jm hn]
   have HL2:Hid (r.length<=l.length/\true=decide (r.length<l.length)):=by have:=HL.o.1;simp only[List.length_cons]at this;exact⟨oo,by simp;omega⟩
   clear hn HD HL;go_wp2_with fail;refine(qE B b sv (n::r) _ R3.o).mono ?_;rintro e w4 ⟨kv4,Vp,rfl,_,SN,Vq⟩;have R5:Hid (iw B w4 b Vp r):=SN;have T5:Hid (Turn b w w4):=T3.o.trans Vq;clear SN Vq;go_wp2_with fail;go_roundg r.length;case measure=>simp
   case rel=>exact⟨r,Vp,true,rfl,rfl,R5.o,T5.o,HD2.o,HL2.o.1,HL2.o.2⟩
end
end Go.Proofs.YtlliliddljkbfaaGreatDoor
namespace Go.Proofs.YtlliliddljkbfaaGreatDoor
set_option maxHeartbeats 64000000
set_option maxRecDepth 100000
open Go.Proofs.Tryz (prog)
open Go.RowKit
theorem zB{P:Program}(w:World){ops:Array Oper}{rest:List Oper}{o:Oper}{a:Act}{Q:Exit->Act->World->Prop}
  (hg:o.guard=none) (s x:Operand) (t tx:TypeId) (hop:o.op=Op.call { callee:=Callee.builtin Builtin.append,args:=#[s,x],argTypes:=#[t,tx] })
  (base:Nat) (e:TypeId) (i:TypeInfo) (h1:P.underlying t=some (.slice e)) (h1x:P.underlying tx=some .string) (h2:P.info? e=some i) (h4:i.size=1)
  (g k cap:Nat) (xs:List Value) (hs:a.eval s=.slice (some ⟨g,0,none⟩) k cap) (hown:w.ownsRow base e 1 (.slice (some ⟨g,0,none⟩) k cap) k xs) (str:ByteArray) (hx:a.eval x=.string str) (b1:k+str.size<=cap)
  (hK:∀w',w'.ownsRow base e 1 (.slice (some ⟨g,0,none⟩) (k+str.size) cap) (k+str.size) (xs++byteCells str)->w.grownBy w' (some g)->wpList P ops Q rest (a.put o.dst (.slice (some ⟨g,0,none⟩) (k+str.size) cap)) w'):
  wpList P ops Q (o::rest) a w:=by
 refine wpList_plain hg fun K hK'=>?_;have hl:(byteCells str).length=str.size:=byteCells_length str;have hone:∀u∈byteCells str,u.oneCell'=true:=(Src.ofString (P:=P) w h1x str).one;rcases hown.2 with⟨hv,_⟩|⟨g',cap',cur,hv,hb,hgg,hnc,hcm,hcs,htake⟩
 .cases hv
 .have hv':g=g'/\cap=cap':=by
   injection hv with e1 e2 e3
   injection e1 with e1
   injection e1 with e1
   exact⟨e1,e3⟩
  obtain⟨rfl,rfl⟩:=hv';have hx0:=hown.1;have hst:=run_storeCells_at P g k e (byteCells str) 0 cur w hgg (by rw[hl,hcs];omega) hone;simp only[Nat.add_zero]at hst;have hrun:(Builtin.append_ #[t,tx] o.type #[.slice (some ⟨g,0,none⟩) k cap,.string str]).run P w =
    .ok (.slice (some ⟨g,0,none⟩) (k+str.size) cap) (w.setRow g (cur.toList.take k++byteCells str++cur.toList.drop (k+(byteCells str).length)).toArray):=by
   have hf:=firstCells_string (P:=P) str w;simp[Builtin.append_,run_underlying h1,run_underlying h1x,sizeOf,typeInfo,h2,h4,Builtin.lenOf,b1,hf,Addr.add_lit,hst]
  unfold Oper.wp;simp only[execOp,hop,resolve,invoke,builtin,Sem.run_bind,Sem.run_pure,Result.andThen_ok,List.map_toArray,List.map_cons,List.map_nil,hs,hx,hrun];refine hK' _ _ (hK _ ⟨?_,.inr ⟨g,cap,_,rfl,hb,setRow_heap w g cur _ e _ hgg,b1,hcm,?_,?_⟩⟩ ⟨rfl,rfl,rfl,by simp,fun k' _ hk=>setRow_other w g k' _ (fun e=>hk (by rw[e]))⟩)
  .rw[List.length_append,hx0,hl];omega
  .simp only[List.size_toArray,List.length_append,List.length_take,List.length_drop,Array.length_toList,hl];omega
  .have h3:(k+str.size)*1=(cur.toList.take k++byteCells str).length:=by
    simp only[List.length_append,List.length_take,Array.length_toList,hl];omega
   rw[h3];dsimp only
   rw[List.take_left];congr 1
   rw[<-htake];simp
theorem Eh{P:Program}(w:World)(src dst e:TypeId)(hs:P.underlying src=some (.slice e))(he:P.underlying e=some (.int .u8))(hd:P.underlying dst=some .string)
  {base:Nat}{v:Value} (l:List UInt8) (hown:w.ownsRow base e 1 v l.length (l.map fun b=>Value.int .u8 (b.toNat:Int))):
  (convert src dst v).run P w=.ok (.string ⟨l.toArray⟩) w:=by
 rcases hown.2 with⟨rfl,h0⟩|⟨g,cap,cur,rfl,hb,hgg,hnc,hcm,hcs,htake⟩
 .have:l=[]:=List.eq_nil_of_length_eq_zero h0;subst this;rw[run_convert_bytes_nil w src e hs he 0 0 dst hd];rfl
 .refine run_convert_bytes_back w src dst e ⟨g,0,none⟩ cap l hs he hd ?_;intro j hj;exact hown.cells (g:=g) rfl j _ (by simp[hj])
theorem GU(s:ByteArray):byteCells s=s.data.toList.map fun b=>Value.int .u8 (b.toNat:Int):=rfl
theorem Jz:∃i,prog.info? 5=some i/\i.zero=some (.int .u8 0)/\i.size=1/\i.bytes=1:=info_parts (by kernel_rfl)
theorem jV:∃i,prog.info? 9=some i/\i.zero=some (.string ⟨#[]⟩)/\i.size=1/\i.bytes=16:=info_parts (by kernel_rfl)
theorem La:∃i,prog.info? 68=some i/\i.zero=some (.agg #[.int .i64 0,.string ⟨#[]⟩,.string ⟨#[]⟩])/\i.size=3/\i.bytes=40:=info_parts (by kernel_rfl)
end Go.Proofs.YtlliliddljkbfaaGreatDoor
namespace Go.Proofs.YtlliliddljkbfaaGreatDoor
set_option maxHeartbeats 64000000
set_option maxRecDepth 100000
open Go.Proofs.Tryz (prog)
open Go.RowKit Sp
theorem IE(c:UInt8):(jF c).toNat=if 65<=c.toNat/\c.toNat<=90 then c.toNat+32 else c.toNat:=by
 unfold jF;have h:=c.toNat_lt;by_cases h1:65<=c/\c<=90
 .rw[if_pos h1];have h2:65<=c.toNat/\c.toNat<=90:=by simpa[UInt8.le_iff_toNat_le]using h1
  rw[if_pos h2,UInt8.toNat_add];simp;omega
 .rw[if_neg h1,if_neg (by simpa[UInt8.le_iff_toNat_le]using h1)]
def Bytes(w:World)(g:Nat)(s:ByteArray)(k:Nat):Prop:=
 (∀j (hj:j<s.size),w.cell? ⟨g,j,none⟩=some (.int .u8 (if j<k then((jF s[j]).toNat:Int) else(s[j].toNat:Int)))) /\
 (∀j,j<s.size->w.frozen? ⟨g,j,none⟩=false)/\g<w.heap.size
theorem Bytes.step{w:World}{g:Nat}{s:ByteArray}{k:Nat}(h:Bytes w g s k)(hk:k<s.size):Bytes (w.setCell ⟨g,k,none⟩ (.int .u8 ((jF s[k]).toNat:Int))) g s (k+1):=by
 refine⟨fun j hj=>?_,fun j hj=>?_,by simpa[World.setCell]using h.2.2⟩
 .by_cases e:j=k
  .subst e;rw[if_pos (by omega)];apply World.cell?_setCell_same
   exact h.1 j hj
  .have h1:=h.1 j hj;have h2:(w.setCell ⟨g,k,none⟩ (.int .u8 ((jF s[k]).toNat:Int))).cell? ⟨g,j,none⟩=w.cell? ⟨g,j,none⟩:=by
    apply World.cell?_setCell_other
    intro h0;exact e (congrArg Addr.off h0).symm
   rw[h2,h1];congr 2
   by_cases h3:j<k
   .rw[if_pos h3,if_pos (by omega)]
   .rw[if_neg h3,if_neg (by omega)]
 .have:=h.2.1 j hj;simpa using this
theorem Bytes.stay{w:World}{g:Nat}{s:ByteArray}{k:Nat}(h:Bytes w g s k)(hk:k<s.size)(e:jF s[k]=s[k]):Bytes w g s (k+1):=by
 refine⟨fun j hj=>?_,h.2.1,h.2.2⟩;rw[h.1 j hj];congr 2
 by_cases h3:j<k
 .rw[if_pos h3,if_pos (by omega)]
 .rw[if_neg h3];by_cases h4:j<k+1
  .obtain rfl:j=k:=by omega
   rw[if_pos h4,e]
  .rw[if_neg h4]
theorem Bytes.conv{w:World}{g:Nat}{s:ByteArray}{k cap:Nat}(h:Bytes w g s k)(hk:s.size<=k):
  (convert 182 9 (.slice (some ⟨g,0,none⟩) s.size cap)).run prog w=.ok (.string (small s)) w:=by
 have hl:(s.data.toList.map jF).length=s.size:=by simp
 have:=run_convert_bytes_back (P:=prog) w 182 9 5 ⟨g,0,none⟩ cap (s.data.toList.map jF) Tryz.underlying182 Tryz.underlying5 Tryz.underlying9 (by intro j hj;rw[hl]at hj;rw[Addr.add_lit,Nat.zero_add,h.1 j hj,if_pos (by omega)];simp;rfl)
 rw[hl]at this;exact this
theorem Lc(s:ByteArray)(w:World):∃w1 cap,(convert 9 182 (.string s)).run prog w=.ok (.slice (some ⟨w.heap.size,0,none⟩) s.size cap) w1/\(Bytes w1 w.heap.size s 0/\Below w.heap.size w w1)/\w.heap.size<w1.heap.size:=by
 refine⟨_,_,run_bytes_of_string (P:=prog) w 9 182 5 s Tryz.underlying9 Tryz.underlying182 Tryz.underlying5,⟨⟨?_,?_,?_⟩,?_⟩,?_⟩
 .intro j hj;rw[if_neg (by omega)];have e:=World.cell?_alloc_mark w.drew (bytesRow s (grownCap w s.size 0 5)) 5 ((bytesRow s (grownCap w s.size 0 5)).size,(bytesRow s (grownCap w s.size 0 5)).size+1) j;have e2:w.drew.heap.size=w.heap.size:=rfl;rw[e2]at e;rw[e];unfold bytesRow;rw[Array.getElem?_append_left (by simpa using hj)];simp[hj];rfl
 .intro j hj;have hsz:s.size<=(bytesRow s (grownCap w s.size 0 5)).size:=by simp[bytesRow]
  unfold World.frozen?;have e:=heap_alloc_new w.drew (.cells (bytesRow s (grownCap w s.size 0 5)) 5 ((bytesRow s (grownCap w s.size 0 5)).size,(bytesRow s (grownCap w s.size 0 5)).size+1));have e2:w.drew.heap.size=w.heap.size:=rfl;rw[e2]at e;rw[e];simp;omega
 .simp
 .exact((Below.refl _ w).drew).alloc (Nat.le_refl _) _
 .simp
theorem oH(s:ByteArray)(w:World)(hs:s.size<=4000000):
  Calls prog 86 #[.string s] w fun e w'=>e=.returned (.string (small s))/\Below w.heap.size w w':=by
 obtain⟨w1,cap,hrun,hbs,hsz⟩:=Lc s w;have HB:Hid (Bytes w1 w.heap.size s 0):=hbs.1;have HW:Hid (Below w.heap.size w w1):=hbs.2;clear hbs;go_in;go_wp2_with fail;go_loopg[10] s.size (fun g v10 wr=>∃k:Nat,k+g=s.size/\v10=.int .i64 (k:Int)/\Aside (Bytes wr w.heap.size s k/\Below w.heap.size w wr));case atStart=>exact⟨0,by omega,rfl,HB.out,HW.out⟩
 case round=>
  obtain⟨k,hk,rfl,hA⟩:=hrel;have H1:Hid (Bytes wr w.heap.size s k):=hA.out.1;have H2:Hid (Below w.heap.size w wr):=hA.out.2;clear hA;by_cases hlt:k<s.size
  .have hc:wr.cell? ⟨w.heap.size,k,none⟩=some (.int .u8 (s[k].toNat:Int)):=by rw[H1.out.1 k hlt,if_neg (by omega)]
   have hf:=H1.out.2.1 k hlt;have hl:=H1.out.2.2;have hb:s[k].toNat<256:=s[k].toNat_lt;have HS:Hid ((jF s[k]).toNat=if 65<=s[k].toNat/\s[k].toNat<=90 then s[k].toNat+32 else s[k].toNat):=IE _;have HK:Hid (Bytes (wr.setCell ⟨w.heap.size,k,none⟩ (.int .u8 ((jF s[k]).toNat:Int))) w.heap.size s (k+1)):=H1.out.step hlt;have HN:Hid (jF s[k]=s[k]->Bytes wr w.heap.size s (k+1)):=H1.out.stay hlt;have HE:Hid ((jF s[k]).toNat=s[k].toNat->jF s[k]=s[k]):=fun h=>UInt8.toNat_inj.1 h;generalize hn:s[k].toNat=n at *;clear hn;by_cases h65:65<=n
   .by_cases h90:n<=90
    .have Vr:(65:Int)<=(n:Int):=by omega
     have aaU:(n:Int)<=90:=by omega
     go_wp2_with fail;go_roundg(gk-1);case measure=>omega
     case rel=>
      refine⟨k+1,by omega,by congr 1,?_,H2.out.setCell (Nat.le_refl _) _⟩;have e:=HS.out;rw[if_pos ⟨h65,h90⟩]at e;have:=HK.out;rw[e]at this;first
      |exact this
      |(have e2:((n+32:Nat):Int)=(n:Int)-65+97:=(by omega);rw[e2]at this;exact this)
    .have aaU:(90:Int)<(n:Int):=by omega
     have Vr:(65:Int)<=(n:Int):=by omega
     go_wp2_with fail;go_roundg(gk-1);case measure=>omega
     case rel=>exact⟨k+1,by omega,by congr 1,HN.out (HE.out (by rw[HS.out,if_neg (by omega)])),H2.out⟩
   .have Vr:(n:Int)<65:=by omega
    go_wp2_with fail;go_roundg(gk-1);case measure=>omega
    case rel=>exact⟨k+1,by omega,by congr 1,HN.out (HE.out (by rw[HS.out,if_neg (by omega)])),H2.out⟩
  .have hcv:=H1.out.conv (cap:=cap) (by omega);go_wp2_with fail;go_ret;exact⟨rfl,H2.out⟩
theorem gW(s:ByteArray)(w:World)(hs:s.size<=4000000):
  Calls prog 57 #[.string s] w fun e w'=>e=.returned (.string (small s))/\Below w.heap.size w w':=by
 obtain⟨w1,cap,hrun,hbs,hsz⟩:=Lc s w;have HB:Hid (Bytes w1 w.heap.size s 0):=hbs.1;have HW:Hid (Below w.heap.size w w1):=hbs.2;clear hbs;go_in;go_wp2_with fail;go_loopg[4] s.size (fun g v10 wr=>∃k:Nat,k+g=s.size/\v10=.int .i64 (k:Int)/\Aside (Bytes wr w.heap.size s k/\Below w.heap.size w wr));case atStart=>exact⟨0,by omega,rfl,HB.out,HW.out⟩
 case round=>
  obtain⟨k,hk,rfl,hA⟩:=hrel;have H1:Hid (Bytes wr w.heap.size s k):=hA.out.1;have H2:Hid (Below w.heap.size w wr):=hA.out.2;clear hA;by_cases hlt:k<s.size
  .have hc:wr.cell? ⟨w.heap.size,k,none⟩=some (.int .u8 (s[k].toNat:Int)):=by rw[H1.out.1 k hlt,if_neg (by omega)]
   have hf:=H1.out.2.1 k hlt;have hl:=H1.out.2.2;have hb:s[k].toNat<256:=s[k].toNat_lt;have HS:Hid ((jF s[k]).toNat=if 65<=s[k].toNat/\s[k].toNat<=90 then s[k].toNat+32 else s[k].toNat):=IE _;have HK:Hid (Bytes (wr.setCell ⟨w.heap.size,k,none⟩ (.int .u8 ((jF s[k]).toNat:Int))) w.heap.size s (k+1)):=H1.out.step hlt;have HN:Hid (jF s[k]=s[k]->Bytes wr w.heap.size s (k+1)):=H1.out.stay hlt;have HE:Hid ((jF s[k]).toNat=s[k].toNat->jF s[k]=s[k]):=fun h=>UInt8.toNat_inj.1 h;generalize hn:s[k].toNat=n at *;clear hn;by_cases h65:65<=n
   .by_cases h90:n<=90
    .have Vr:(65:Int)<=(n:Int):=by omega
     have aaU:(n:Int)<=90:=by omega
     go_wp2_with fail;go_roundg(gk-1);case measure=>omega
     case rel=>
      refine⟨k+1,by omega,by congr 1,?_,H2.out.setCell (Nat.le_refl _) _⟩;have e:=HS.out;rw[if_pos ⟨h65,h90⟩]at e;have:=HK.out;rw[e]at this;first
      |exact this
      |(have e2:((n+32:Nat):Int)=(n:Int)-65+97:=(by omega);rw[e2]at this;exact this)
    .have aaU:(90:Int)<(n:Int):=by omega
     have Vr:(65:Int)<=(n:Int):=by omega
     go_wp2_with fail;go_roundg(gk-1);case measure=>omega
     case rel=>exact⟨k+1,by omega,by congr 1,HN.out (HE.out (by rw[HS.out,if_neg (by omega)])),H2.out⟩
   .have Vr:(n:Int)<65:=by omega
    go_wp2_with fail;go_roundg(gk-1);case measure=>omega
    case rel=>exact⟨k+1,by omega,by congr 1,HN.out (HE.out (by rw[HS.out,if_neg (by omega)])),H2.out⟩
  .have hcv:=H1.out.conv (cap:=cap) (by omega);go_wp2_with fail;go_ret;exact⟨rfl,H2.out⟩
end Go.Proofs.YtlliliddljkbfaaGreatDoor
