import Derived.Test.YtlliliddljkbfaaGreatC30
set_option maxHeartbeats 64000000
set_option maxRecDepth 100000
namespace Go.Proofs.YtlliliddljkbfaaGreat
open Go.Proofs.Tryz (prog)
open Go.RowKit Sp
section
structure InC(C B:Nat)(wa:Option Addr)(bs:List Nat)(kb:Nat):Prop where
 b:B<=C
 k:kb<C
 bs:∀x∈bs,x<C
 row:∀rb o,wa=some ⟨rb,o,none⟩->rb<C
section
variable {B:Nat} {w w':WD} {p:aI} {a:Option Addr} {cap:Nat} {wa:Option Addr} {wc:Nat} {bs:List Nat} {kb:Nat} {F:Nat->BY->Option jS} {lp:Nat->BY->Bool}
theorem lV.inC(h:lV B w p a cap wa wc bs kb F lp):InC w.heap.size B wa bs kb:=by
 refine⟨h.cas.pg.lt,h.DU.lt,fun x hx=>?_,fun rb o e=>?_⟩
 .obtain⟨i,hi,rfl⟩:=List.getElem_of_mem hx;exact(h.all i hi).lt
 .obtain⟨rb',o',e',hc⟩:=h.cas.win;rw[e]at e';cases e';have h1:=h.cas.pg.len;have h2:=h.cas.len;exact cell_lt (hc 0 oo)
theorem lV.low{C:Nat}(h:lV B w p a cap wa wc bs kb F lp)(hi:InC C B wa bs kb)(hb:Below C w w'):lV B w' p a cap wa wc bs kb F lp:=by
 obtain⟨rb,o,e,hc⟩:=h.cas.win;have hbB:Below B w w':=hb.mono hi.b;refine⟨⟨h.cas.pg.below hbB nl,⟨rb,o,e,fun i hi'=>?_⟩,h.cas.len,h.cas.cap,h.cas.nd,h.cas.lo⟩,fun i hi'=>?_,h.DU.keep (hb.block _ hi.k),h.ne,h.lo⟩
 .rw[World.cell?_of_block (w:=w) (a:=⟨rb,_,none⟩) (hb.block rb (hi.row rb o e))];exact hc i hi'
 .exact(h.all i hi').keep hbB (hb.block _ (hi.bs _ (List.getElem_mem hi')))
end
def am6(w w':WD)(r:Option (List Nd))(ex:Ending):Prop:=
 match r with
 |none=>ex=.returned (.tuple #[.slice none 0 0,.bool false])
 |some x=>∃u,ex=.returned (.tuple #[u,.bool true])/\Sl (oD w.heap.size w') w' u x
def inR(r:Option Nd)(ex:Ending):Prop:=
 match r with
 |none=>∃t:Tok,ex=.returned (.tuple #[fB t (.slice none 0 0),.bool false])
 |some m=>∃s,m=wI s/\s.size<=4000000/\ex=.returned (.tuple #[fB (Tok.w (-1) s) (.slice none 0 0),.bool true])
section
variable (B:Nat) (p:aI) (a:Option Addr) (cap:Nat) (wa:Option Addr) (wc:Nat) (bs:List Nat) (kb:Nat) (F:Nat->BY->Option jS) (lp:Nat->BY->Bool) (e:Nat)
def ahP(f:Nat)(l:List Nd):Prop:=∀(v:Av) (w:WD),Sl (fun b=>b<B) w v l->lV B w p a cap wa wc bs kb F lp ->
 Calls prog 168 #[.agg #[.slice a p.length cap,.slice wa bs.length wc,.map (some kb)],.int .i64 (e:Int),v] w fun ex w'=>(∃r,Ex p (kJ F) lp e f l r/\am6 w w' r ex)/\kX w' kb p F lp/\Turn kb w w'
def al9(f:Nat)(n:Nd):Prop:=∀(kv:Av) (w:WD),Sl (fun b=>b<B) w kv n.kids->lV B w p a cap wa wc bs kb F lp ->
 Calls prog 233 #[.agg #[.slice a p.length cap,.slice wa bs.length wc,.map (some kb)],.int .i64 (e:Int),fB n.t kv] w fun ex w'=>(∃r,En p (kJ F) lp e f n r/\inR r ex)/\kX w' kb p F lp/\Turn kb w w'
end
def KH(w:WD)(b:Nat)(x0 x1 x2 x3:Av):WD:=(((w.setCell ⟨b,0,none⟩ x0).setCell ⟨b,1,none⟩ x1).setCell ⟨b,2,none⟩ x2).setCell ⟨b,3,none⟩ x3
theorem VB.KH{w:WD}{b:Nat}{y0 y1 y2 y3:Av}(h:VB w b y0 y1 y2 y3)(x0 x1 x2 x3:Av):VB (KH w b x0 x1 x2 x3) b x0 x1 x2 x3:=by have h1:=bQ w b 0 _ _ _ x0 h;have h2:=bQ _ b 1 _ _ _ x1 h1;have h3:=bQ _ b 2 _ _ _ x2 h2;exact bQ _ b 3 _ _ _ x3 h3
theorem VB.ama{w:WD}{b:Nat}{y0 y1 y2 y3:Av}(h:VB w b y0 y1 y2 y3)(x3:Av):VB (w.setCell ⟨b,3,none⟩ x3) b y0 y1 y2 x3:=bQ w b 3 _ _ _ x3 h
theorem ni(w:WD)(b:Nat)(x0 x1 x2 x3:Av){k:Nat}(h:k≠b):(KH w b x0 x1 x2 x3).heap[k]?=w.heap[k]?:=by unfold KH;rw[Below.heap_setCell _ _ _ _ h,Below.heap_setCell _ _ _ _ h,Below.heap_setCell _ _ _ _ h,Below.heap_setCell _ _ _ _ h]
theorem UM(w:WD)(b:Nat)(x0 x1 x2 x3:Av):Below b w (KH w b x0 x1 x2 x3):=((((Below.refl b w).setCell (p:=⟨b,0,none⟩) nl _).setCell (p:=⟨b,1,none⟩) nl _).setCell (p:=⟨b,2,none⟩) nl _).setCell (p:=⟨b,3,none⟩) nl _
structure RpI(B:Nat)(w:WD)(p:aI)(a:Option Addr)(cap:Nat)(wa:Option Addr)(wc:Nat)(bs:List Nat)(kb:Nat)(F:Nat->BY->Option jS)(lp:Nat->BY->Bool)(u:Av)(acc:List Nd)(wr:WD):Prop where
 k:K3 wr w.heap.size (.slice a p.length cap) (.slice wa bs.length wc) (.map (some kb))
 c:lV B wr p a cap wa wc bs kb F lp
 m:Ei 199 (w.heap.size+1) wr u acc
 t:Turn kb w wr
 o:InC w.heap.size B wa bs kb
section
variable {B:Nat} {w wr w':WD} {p:aI} {a:Option Addr} {cap:Nat} {wa:Option Addr} {wc:Nat} {bs:List Nat} {kb:Nat} {F:Nat->BY->Option jS} {lp:Nat->BY->Bool} {u:Av} {acc:List Nd}
theorem RpI.turn(h:RpI B w p a cap wa wc bs kb F lp u acc wr)(hk:kb<w.heap.size)(ht:Turn kb wr w')(hn:kX w' kb p F lp):RpI B w p a cap wa wc bs kb F lp u acc w':=⟨(show _=_ from(ht.block _ h.k.lt oo).trans h.k),h.c.turn ht hn,h.m.keep ht.size fun g hg hl=>ht.block g hl oo,h.t.trans ht,h.o⟩
theorem RpI.grown{u':Av}{acc':List Nd}(h:RpI B w p a cap wa wc bs kb F lp u acc wr)(hb:Below (w.heap.size+1) wr w')(hm:Ei 199 (w.heap.size+1) w' u' acc'):RpI B w p a cap wa wc bs kb F lp u' acc' w':=by have ht:Turn kb w w':=⟨hb.os.trans h.t.os,hb.tape.trans h.t.tape,hb.output.trans h.t.output,Nat.le_trans h.t.size hb.size,fun g hg hne=>(hb.block g oo).trans (h.t.block g hg hne)⟩;exact⟨(show _=_ from(hb.block _ oo).trans h.k),h.c.low h.o (hb.mono oo),hm,ht,h.o⟩
end
theorem EX{kb:Nat}{w w':WD}(h:Turn kb w w'){b:Nat}(hb:w.heap.size<=b)(x0 x1 x2 x3:Av):Turn kb w (KH w' b x0 x1 x2 x3):=⟨h.os,h.tape,h.output,Nat.le_trans h.size (UM w' b x0 x1 x2 x3).size,fun g hg hne=>(ni w' b x0 x1 x2 x3 oo).trans (h.block g hg hne)⟩
theorem NW{kb:Nat}{w w':WD}(h:Turn kb w w'){b:Nat}(hb:w.heap.size<=b)(o:Nat)(x:Av):Turn kb w (w'.setCell ⟨b,o,none⟩ x):=⟨h.os,h.tape,h.output,Nat.le_trans h.size ((Below.refl b w').setCell (p:=⟨b,o,none⟩) nl x).size,fun g hg hne=>(Below.heap_setCell _ _ _ _ (by show g≠b;omega)).trans (h.block g hg hne)⟩
theorem akr{s:BY}(h:s.size<=4000000):dI (wI s).t:=by
 unfold wI Tok.w;refine⟨h,?_,?_,?_,?_,?_⟩
 .show(0:Nat)<=1000;omega
 .intro e;exact absurd e (show ¬((-1:Int)=5) by decide)
 .intro e;exact absurd e (show ¬((-1:Int)=7) by decide)
 .intro e;exact absurd e (show ¬((-1:Int)=15) by decide)
 .intro e;exact absurd e (show ¬((-1:Int)=4\/(-1:Int)=10\/(-1:Int)=11\/(-1:Int)=14) by decide)
theorem aiF(w:WD)(x0 x1 x2 x3:Av)(T:TypeId):∀j u,[x0,x1,x2,x3][j]?=some u->(w.alloc (.cells #[x0,x1,x2,x3] T)).cell? ((⟨w.heap.size,0,none⟩:Addr).add j)=some u:=Vu w x0 x1 x2 x3 T
theorem XW(B:Nat)(p:aI)(a:Option Addr)(cap:Nat)(wa:Option Addr)(wc:Nat)(bs:List Nat)(kb:Nat)(F:Nat->BY->Option jS)(lp:Nat->BY->Bool)(e f:Nat)(l:List Nd)
  (hk:∀n∈l,kD n.t=false->∃g,ahP B p a cap wa wc bs kb F lp e g n.kids/\∀r,Ex p (kJ F) lp e g n.kids r->En p (kJ F) lp e f n (r.map (fun k=>.mk n.t k)))
  (hi:∀n∈l,kD n.t=true->al9 B p a cap wa wc bs kb F lp e f n):ahP B p a cap wa wc bs kb F lp e f l:=by
 intro v w h hC;have FU:=h.len;have HS:=hid h;have HKK:=hid hk;have HII:=hid hi;have hkl:=hC.DU.lt;have hlo:=hC.lo;have am7:=hid hC.inC;obtain⟨va,vc,rfl⟩:=h.form;have B0:Hid (Below w.heap.size w (w.alloc (.cells #[.slice a p.length cap,.slice wa bs.length wc,.map (some kb)] 77))):=Ax.alloc nl _;have K0:Hid (K3 (w.alloc (.cells #[.slice a p.length cap,.slice wa bs.length wc,.map (some kb)] 77)) w.heap.size (.slice a p.length cap) (.slice wa bs.length wc) (.map (some kb))):=K3.new _ _ _ _;have C0:=hid (hC.below B0.o);clear h hk hi hC;obtain⟨iT,hiT⟩:=yZ;have HI:Hid (prog.info? 199=some iT/\iT.zero=some (.agg #[.int .i64 0,.string ⟨#[]⟩,.string ⟨#[]⟩,.slice none 0 0])/\iT.size=4/\iT.bytes=64):=hiT;clear hiT
 go_in;go_wp2_with fail;generalize hw0:w.alloc (.cells #[.slice a p.length cap,.slice wa bs.length wc,.map (some kb)] 77)=w0 at *;have hs0:w0.heap.size=w.heap.size+1:=by rw[<-hw0];simp
 clear hw0;have I0:Hid (RpI B w p a cap wa wc bs kb F lp (.slice none 0 0) [] w0):=⟨K0.o,C0.o,Ei.nil _ _ _,Turn.of_below B0.o,am7.o⟩;go_loopg[8,14] l.length (fun gg v8 v14 wr=>∃(u:Av) (acc:List Nd) (i:Nat),u=v8/\v14=.int .i64 (i:Int)/\i+gg=l.length/\acc.length=i/\Aside (RpI B w p a cap wa wc bs kb F lp u acc wr/\Ex p (kJ F) lp e f (l.take i) (some acc)));case atStart=>exact⟨_,[],0,rfl,rfl,oo,rfl,I0.o,by rw[List.take_zero];exact Ex.nil _ _⟩
 case round=>
  obtain⟨u,acc,i,rfl,rfl,hi,hal,hA⟩:=hrel;have IR:=hid hA.o.1;have HX:=hid hA.o.2;clear hA;have hsr:w.heap.size+1<=wr.heap.size:=by have:=IR.o.k.lt;omega
  have hBW:=hid (IR.o.t.below hlo oo);obtain⟨ua,uc,rfl⟩:=IR.o.m.form;rw[hal]at IR;rw[hal];by_cases hlt:i<l.length
  .have h1:(i:Int)<(l.length:Int):=oo;obtain⟨g1,o,rfl,hL,hcap⟩:=(HS.o.below hBW.o nl).here (by rintro rfl;simp at hlt);obtain⟨kv,hN⟩:=hL.node (i:=i) hlt;have HT1:Hid (l.take (i+1)=l.take i++[l[i]]):=List.take_succ_eq_append_getElem hlt;have HT2:Hid (l=l.take i++l[i]::l.drop (i+1)):=by
    show _=_;rw[<-List.drop_eq_getElem_cons hlt,List.take_append_drop]
   have HKN:=hid (HKK.o l[i] (List.getElem_mem hlt));have HIN:=hid (HII.o l[i] (List.getElem_mem hlt));generalize l[i]=n at *;obtain⟨c0,c1,c2,c3⟩:_/\_/\_/\_:=⟨hN.c0,hN.c1,hN.c2,hN.c3⟩;have hok:=hN.ok;have VJ:=hid hok;have hw:=hok.word;obtain⟨ka,kc,rfl⟩:=hN.k.form;have HK:=hid hN.k;clear hN hL hok;have A2:Hid (VB (wr.alloc (.cells #[.int .i64 n.t.kind,.string n.t.word,.string n.t.unit,.slice ka n.kids.length kc] 199)) wr.heap.size (.int .i64 n.t.kind) (.string n.t.word) (.string n.t.unit) (.slice ka n.kids.length kc)):=VB.new _ _ _ _ _;have X2:Hid (Below wr.heap.size wr (wr.alloc (.cells #[.int .i64 n.t.kind,.string n.t.word,.string n.t.unit,.slice ka n.kids.length kc] 199))):=Ax.alloc nl _;go_upto_region 5 with fail
   generalize hw2:wr.alloc (.cells #[.int .i64 n.t.kind,.string n.t.word,.string n.t.unit,.slice ka n.kids.length kc] 199)=w2 at *;have hs2:w2.heap.size=wr.heap.size+1:=by rw[<-hw2];simp
   clear hw2;obtain⟨nb,Gi⟩:=Nm wr.heap.size;have hnb:=Gi.o;have T2:Hid (Turn kb wr w2):=Turn.of_below X2.o;have N2:Hid (kX w2 kb p F lp):=IR.o.c.DU.keep (X2.o.block _ oo);have K2:=hid (IR.o.k.below X2.o);have KL2:=hid (HK.o.below X2.o (by have:=IR.o.c.cas.pg.lt;omega));rw[Gi.o]at A2;rw[Gi.o];clear c0 c1 c2 c3 HK X2;obtain⟨a0,a1,a2,a3⟩:=A2.o.cs;obtain⟨kn,Hkn⟩:=Nm n.kids.length;rw[Hkn.o]at a3 A2 KL2;have wH:Hid (Calls prog 101 #[.agg #[.int .i64 n.t.kind,.string n.t.word,.string n.t.unit,.slice ka kn kc]] w2 fun e w'=>e=.returned (.bool (kD n.t))/\Below w2.heap.size w2 w'):=PY n.t ka kn kc w2 hw;obtain⟨z,Hz⟩:=Nm (kD n.t);rw[Hz.o]at wH;go_wp2_with fail;refine wH.o.mono ?_;rintro ex w3 ⟨rfl,hb3⟩;have A3:=hid (A2.o.below hb3)
   have T3:=hid (T2.o.trans (Turn.of_below hb3));have N3:Hid (kX w3 kb p F lp):=N2.o.keep (hb3.block _ N2.o.lt);have K3':=hid (K2.o.below hb3);have KL3:=hid (KL2.o.below hb3 (by have:=IR.o.c.cas.pg.lt;omega));have hs3:=hb3.size;clear hb3 a0 a1 a2 a3 A2 T2 N2 K2 KL2 wH;obtain⟨a0,a1,a2,a3⟩:=A3.o.cs;obtain⟨k0,k1,k2⟩:=K3'.o.cs;cases z
   .obtain⟨gf,hrep,hen⟩:=HKN.o Hz.o;have Vf:=hid hen;have sH:=hid (hrep _ w3 KL3.o (IR.o.c.turn T3.o N3.o));clear hrep hen;go_wp2_with fail;refine sH.o.mono ?_;rintro ex w4 ⟨⟨r,hex,hrr⟩,UN,ZC⟩;have HEX:=hid (Vf.o r hex);have A4:Hid (VB w4 nb (.int .i64 n.t.kind) (.string n.t.word) (.string n.t.unit) (.slice ka kn kc)):=A3.o.turn ZC oo;have T4:=hid (T3.o.trans ZC);have N4:=hid UN;have hs4:=ZC.size;have K4:Hid (K3 w4 w.heap.size (.slice a p.length cap) (.slice wa bs.length wc) (.map (some kb))):=(show _=_ from(ZC.block _ K3'.o.lt oo).trans K3'.o);clear UN ZC hex a0 a1 a2 a3 k0 k1 k2 A3 T3 N3 K3' KL3 sH Vf;obtain⟨a0,a1,a2,a3⟩:=A4.o.cs;have f3:=A4.o.fz 3;cases r with
    |none=>
     have aks:ex=_:=hrr;subst aks;have T5:Hid (Turn kb wr (w4.setCell ⟨nb,3,none⟩ (.slice none 0 0))):=NW T4.o oo _ _;have N5:Hid (kX (w4.setCell ⟨nb,3,none⟩ (.slice none 0 0)) kb p F lp):=N4.o.keep (Below.heap_setCell _ _ _ _ (by show kb≠nb;omega));have I5:=hid (IR.o.turn hkl T5.o N5.o);have HE:Hid (Ex p (kJ F) lp e f l none):=by rw[HT2.o];exact HX.o.stop HEX.o
     go_wp2_with fail;go_ret2
     exact⟨⟨none,HE.o,rfl⟩,I5.o.c.DU,I5.o.t⟩
    |some ks=>
     obtain⟨u4,rfl,hu4⟩:=hrr;obtain⟨qa,qc,rfl⟩:=hu4.form;have HU4:=hid hu4;clear hu4;obtain⟨qn,Hqn⟩:=Nm ks.length;rw[Hqn.o]at HU4;rw[Hqn.o];have A5:Hid (VB (w4.setCell ⟨nb,3,none⟩ (.slice qa qn qc)) nb (.int .i64 n.t.kind) (.string n.t.word) (.string n.t.unit) (.slice qa qn qc)):=A4.o.ama _;have T5:Hid (Turn kb wr (w4.setCell ⟨nb,3,none⟩ (.slice qa qn qc))):=NW T4.o oo _ _;have N5:Hid (kX (w4.setCell ⟨nb,3,none⟩ (.slice qa qn qc)) kb p F lp):=N4.o.keep (Below.heap_setCell _ _ _ _ (by show kb≠nb;omega));have I5:=hid (IR.o.turn hkl T5.o N5.o)
     have U5:Hid (Sl (oD wr.heap.size (w4.setCell ⟨nb,3,none⟩ (.slice qa qn qc))) (w4.setCell ⟨nb,3,none⟩ (.slice qa qn qc)) (.slice qa qn qc) ks):=HU4.o.keep (fun g hg=>⟨by have:=hg.1;omega,by have:=hg.2;simpa[World.setCell]using this⟩) fun g hg=>Below.heap_setCell _ _ _ _ (by show g≠nb;have:=hg.1;omega);go_upto_region 9 with fail
     generalize w4.setCell ⟨nb,3,none⟩ (.slice qa qn qc)=w5 at *;have hs5:wr.heap.size<=w5.heap.size:=T5.o.size;clear a0 a1 a2 a3 f3 A4 T4 N4 K4 HU4;obtain⟨a0,a1,a2,a3⟩:=A5.o.cs;have M6:∀ob,Hid (Ei 199 (w.heap.size+1) (w5.alloc ob) (.slice ua i uc) acc):=fun ob=>I5.o.m.alloc ob;have S6:∀ob,Hid (Sl (DZ (w.heap.size+1) (w5.alloc ob) (.slice ua i uc)) (w5.alloc ob) (.slice qa qn qc) ks):=fun ob=>IR.o.m.apart U5.o hsr Ab (fun g hg=>Below.heap_alloc _ _ _ hg);obtain⟨cs,hown,pX⟩:=(M6 (.cells #[.int .i64 n.t.kind,.string n.t.word,.string n.t.unit,.slice qa qn qc] 199)).o;rw[hal]at hown;have HO:=hid hown;have Wx:=hid pX;clear hown pX
     go_wp2_with(at_builtin;go_must(refine wpList_append_own_at _ rfl _ _ 128 rfl (w.heap.size+1) 199 iT (.agg #[.int .i64 0,.string ⟨#[]⟩,.string ⟨#[]⟩,.slice none 0 0]) 4 64 Tryz.underlying128 HI.o.1 HI.o.2.1 HI.o.2.2.1 HI.o.2.2.2 rfl oo (.slice ua i uc) i cs rfl HO.o ⟨w5.heap.size,0,none⟩ 1 1 [.int .i64 n.t.kind,.string n.t.word,.string n.t.unit,.slice qa qn qc] rfl rfl (aiF _ _ _ _ _ _) (by simp[Value.oneCell']) As oo An ?_));intro v7 w7 wM Es _ afk;have Q7:∀rr,Value.ownBlock (.slice ua i uc)=some rr->w.heap.size+1<=rr:=fun rr hr=>(HO.o.lt rr hr).1;have hb7:Below (w.heap.size+1) w5 w7:=(Ax.alloc oo _).grown Es An Q7;have KI:w7.ownsRow (w.heap.size+1) 199 4 v7 (acc.length+1) (cs++[.int .i64 n.t.kind,.string n.t.word,.string n.t.unit,.slice qa qn qc]):=by rw[hal];exact wM
     have M7:Hid (Ei 199 (w.heap.size+1) w7 v7 (acc++[.mk n.t ks])):=Ei.snoc (n:=.mk n.t ks) Wx.o (S6 _).o VJ.o KI Es (by simpa using afk);have I7:=hid (I5.o.grown hb7 M7.o);have HE:Hid (Ex p (kJ F) lp e f (l.take (i+1)) (some (acc++[.mk n.t ks]))):=by rw[HT1.o];exact HX.o.snoc HEX.o
     clear wM KI Es afk Q7 hb7 M7 M6 S6;go_wp2_with fail;go_roundg(gk-1);case measure=>omega
     case rel=>exact⟨_,_,i+1,rfl,by congr 1,oo,by simp[hal],I7.o,HE.o⟩
   .have sH:Hid (Calls prog 233 #[.agg #[.slice a p.length cap,.slice wa bs.length wc,.map (some kb)],.int .i64 (e:Int),.agg #[.int .i64 n.t.kind,.string n.t.word,.string n.t.unit,.slice ka kn kc]] w3 fun ex w'=>(∃r,En p (kJ F) lp e f n r/\inR r ex)/\kX w' kb p F lp/\Turn kb w3 w'):=HIN.o Hz.o _ w3 KL3.o (IR.o.c.turn T3.o N3.o);go_wp2_with fail;refine sH.o.mono ?_;rintro ex w4 ⟨⟨r,hex,hrr⟩,UN,ZC⟩;have HEX:=hid hex;have A4:Hid (VB w4 nb (.int .i64 n.t.kind) (.string n.t.word) (.string n.t.unit) (.slice ka kn kc)):=A3.o.turn ZC oo;have T4:=hid (T3.o.trans ZC);have N4:=hid UN;have hs4:=ZC.size;have K4:Hid (K3 w4 w.heap.size (.slice a p.length cap) (.slice wa bs.length wc) (.map (some kb))):=(show _=_ from(ZC.block _ K3'.o.lt oo).trans K3'.o);clear UN ZC hex a0 a1 a2 a3 k0 k1 k2 A3 T3 N3 K3' KL3 sH;obtain⟨a0,a1,a2,a3⟩:=A4.o.cs
    have f0:=A4.o.fz 0;have f1:=A4.o.fz 1;have f2:=A4.o.fz 2;have f3:=A4.o.fz 3;cases r with
    |none=>
     obtain⟨t,rfl⟩:=hrr;unfold fB;have T5:Hid (Turn kb wr ((((w4.setCell ⟨nb,0,none⟩ (.int .i64 t.kind)).setCell ⟨nb,1,none⟩ (.string t.word)).setCell ⟨nb,2,none⟩ (.string t.unit)).setCell ⟨nb,3,none⟩ (.slice none 0 0))):=EX T4.o oo _ _ _ _;have N5:Hid (kX ((((w4.setCell ⟨nb,0,none⟩ (.int .i64 t.kind)).setCell ⟨nb,1,none⟩ (.string t.word)).setCell ⟨nb,2,none⟩ (.string t.unit)).setCell ⟨nb,3,none⟩ (.slice none 0 0)) kb p F lp):=N4.o.keep (ni w4 nb _ _ _ _ (show kb≠nb by omega));have I5:=hid (IR.o.turn hkl T5.o N5.o);have HE:Hid (Ex p (kJ F) lp e f l none):=by rw[HT2.o];exact HX.o.stop HEX.o
     go_wp2_with fail;go_ret2
     exact⟨⟨none,HE.o,rfl⟩,I5.o.c.DU,I5.o.t⟩
    |some m=>
     obtain⟨s,rfl,hsz,amb⟩:=hrr;have am8:ex=.returned (.tuple #[.agg #[.int .i64 (-1),.string s,.string ⟨#[]⟩,.slice none 0 0],.bool true]):=amb;subst am8;clear amb;have A5:Hid (VB ((((w4.setCell ⟨nb,0,none⟩ (.int .i64 (-1))).setCell ⟨nb,1,none⟩ (.string s)).setCell ⟨nb,2,none⟩ (.string ⟨#[]⟩)).setCell ⟨nb,3,none⟩ (.slice none 0 0)) nb (.int .i64 (-1)) (.string s) (.string ⟨#[]⟩) (.slice none 0 0)):=A4.o.KH _ _ _ _;have T5:Hid (Turn kb wr ((((w4.setCell ⟨nb,0,none⟩ (.int .i64 (-1))).setCell ⟨nb,1,none⟩ (.string s)).setCell ⟨nb,2,none⟩ (.string ⟨#[]⟩)).setCell ⟨nb,3,none⟩ (.slice none 0 0))):=EX T4.o oo _ _ _ _
     have N5:Hid (kX ((((w4.setCell ⟨nb,0,none⟩ (.int .i64 (-1))).setCell ⟨nb,1,none⟩ (.string s)).setCell ⟨nb,2,none⟩ (.string ⟨#[]⟩)).setCell ⟨nb,3,none⟩ (.slice none 0 0)) kb p F lp):=N4.o.keep (ni w4 nb _ _ _ _ (show kb≠nb by omega));have I5:=hid (IR.o.turn hkl T5.o N5.o);go_upto_region 9 with fail
     generalize((((w4.setCell ⟨nb,0,none⟩ (.int .i64 (-1))).setCell ⟨nb,1,none⟩ (.string s)).setCell ⟨nb,2,none⟩ (.string ⟨#[]⟩)).setCell ⟨nb,3,none⟩ (.slice none 0 0))=w5 at *;have hs5:wr.heap.size<=w5.heap.size:=T5.o.size;clear a0 a1 a2 a3 f0 f1 f2 f3 A4 T4 N4 K4;obtain⟨a0,a1,a2,a3⟩:=A5.o.cs;have M6:∀ob,Hid (Ei 199 (w.heap.size+1) (w5.alloc ob) (.slice ua i uc) acc):=fun ob=>I5.o.m.alloc ob;obtain⟨cs,hown,pX⟩:=(M6 (.cells #[.int .i64 (-1),.string s,.string ⟨#[]⟩,.slice none 0 0] 199)).o;rw[hal]at hown;have HO:=hid hown;have Wx:=hid pX;clear hown pX
     go_wp2_with(at_builtin;go_must(refine wpList_append_own_at _ rfl _ _ 128 rfl (w.heap.size+1) 199 iT (.agg #[.int .i64 0,.string ⟨#[]⟩,.string ⟨#[]⟩,.slice none 0 0]) 4 64 Tryz.underlying128 HI.o.1 HI.o.2.1 HI.o.2.2.1 HI.o.2.2.2 rfl oo (.slice ua i uc) i cs rfl HO.o ⟨w5.heap.size,0,none⟩ 1 1 [.int .i64 (-1),.string s,.string ⟨#[]⟩,.slice none 0 0] rfl rfl (aiF _ _ _ _ _ _) (by simp[Value.oneCell']) As oo An ?_));intro v7 w7 wM Es _ afk;have Q7:∀rr,Value.ownBlock (.slice ua i uc)=some rr->w.heap.size+1<=rr:=fun rr hr=>(HO.o.lt rr hr).1;have hb7:Below (w.heap.size+1) w5 w7:=(Ax.alloc oo _).grown Es An Q7;have KI:w7.ownsRow (w.heap.size+1) 199 4 v7 (acc.length+1) (cs++[.int .i64 (-1),.string s,.string ⟨#[]⟩,.slice none 0 0]):=by rw[hal];exact wM
     have M7:Hid (Ei 199 (w.heap.size+1) w7 v7 (acc++[wI s])):=Ei.snoc (n:=wI s) Wx.o (Sl.nil _ _) (akr hsz) KI Es (by simpa using afk);have I7:=hid (I5.o.grown hb7 M7.o);have HE:Hid (Ex p (kJ F) lp e f (l.take (i+1)) (some (acc++[wI s]))):=by rw[HT1.o];exact HX.o.snoc HEX.o
     clear wM KI Es afk Q7 hb7 M7 M6;go_wp2_with fail;go_roundg(gk-1);case measure=>omega
     case rel=>exact⟨_,_,i+1,rfl,by congr 1,oo,by simp[hal],I7.o,HE.o⟩
  .have h1:(l.length:Int)<=(i:Int):=oo;have HE:Hid (Ex p (kJ F) lp e f l (some acc)):=by
    have q:=HX.o;rwa[List.take_of_length_le (show l.length<=i by omega)]at q
   have HSL:Hid (Sl (oD w.heap.size wr) wr (.slice ua i uc) acc):=(IR.o.m.sl oo).keep (fun g hg=>⟨by have:=hg.1;omega,hg.2⟩) fun _ _=>rfl;go_wp2_with fail;go_ret2
   exact⟨⟨some acc,HE.o,_,rfl,HSL.o⟩,IR.o.c.DU,IR.o.t⟩
end
section
attribute [local go_sem] bI bJ aX aY
def XY(r:Option (List Nd)):BY:=match r with|none=>aA|some x=>Sp.written x
section
variable (B:Nat) (p:aI) (a:Option Addr) (cap:Nat) (wa:Option Addr) (wc:Nat) (bs:List Nat) (kb:Nat) (F:Nat->BY->Option jS) (lp:Nat->BY->Bool) (e:Nat)
def akt(f:Nat)(l:List Nd):Prop:=∀(v:Av) (w:WD),Sl (fun b=>b<B) w v l->lV B w p a cap wa wc bs kb F lp ->
 Calls prog 104 #[.agg #[.slice a p.length cap,.slice wa bs.length wc,.map (some kb)],.int .i64 (e:Int),v] w fun ex w'=>(∃r,Ex p (kJ F) lp e f l r/\ex=.returned (.tuple #[.string (XY r),.bool r.isSome]))/\kX w' kb p F lp/\Turn kb w w'
def DX(e:Int)(nm:BY):Prop:=∀(w:WD),lV B w p a cap wa wc bs kb F lp ->
 Calls prog 37 #[.agg #[.slice a p.length cap,.slice wa bs.length wc,.map (some kb)],.int .i64 e,.string nm] w fun ex w'=>(∃t,ex=.returned (.string t)/\CvI p (kJ F) lp e nm t)/\kX w' kb p F lp/\Turn kb w w'
end
theorem UO:Sp.written []=aA:=by unfold Sp.written l9;rfl
theorem afl(B:Nat)(p:aI)(a:Option Addr)(cap:Nat)(wa:Option Addr)(wc:Nat)(bs:List Nat)(kb:Nat)(F:Nat->BY->Option jS)(lp:Nat->BY->Bool)(e f:Nat)(l:List Nd)
  (hrep:ahP B p a cap wa wc bs kb F lp e f l) (hz:∀x,Ex p (kJ F) lp e f l (some x)->dL x<=549755813888):akt B p a cap wa wc bs kb F lp e f l:=by
 intro v w h hC;have HS:=hid h;have HRP:=hid hrep;have HZ:=hid hz;have hkl:=hC.DU.lt;have hBw:=hC.cas.pg.lt;obtain⟨va,vc,rfl⟩:=h.form;have B0:Hid (Below w.heap.size w (w.alloc (.cells #[.slice a p.length cap,.slice wa bs.length wc,.map (some kb)] 77))):=Ax.alloc nl _;have K0:Hid (K3 (w.alloc (.cells #[.slice a p.length cap,.slice wa bs.length wc,.map (some kb)] 77)) w.heap.size (.slice a p.length cap) (.slice wa bs.length wc) (.map (some kb))):=K3.new _ _ _ _;have C0:=hid (hC.below B0.o);clear h hrep hz hC;obtain⟨ln,Hln⟩:=Nm l.length;rw[Hln.o]at HS;rw[Hln.o];go_in;go_wp2_with fail
 generalize w.alloc (.cells #[.slice a p.length cap,.slice wa bs.length wc,.map (some kb)] 77)=w0 at *;obtain⟨k0,k1,k2⟩:=K0.o.cs;have sH:=hid (HRP.o _ w0 (HS.o.below B0.o hBw) C0.o);go_wp2_with fail;refine sH.o.mono ?_;rintro ex w1 ⟨⟨r,hex,hrr⟩,amc,ht1⟩;have T1:Hid (Turn kb w w1):=(Turn.of_below B0.o).trans ht1;have N1:=hid amc;have HEX:=hid hex;clear amc ht1 hex k0 k1 k2 sH;cases r with
 |none=>
  have aks:ex=_:=hrr;subst aks;have HV:=hid (uq [] w1.heap.size (.slice none 0 0) w1 (Sl.nil _ _) nl (by simp[dL]));rw[UO]at HV;go_wp2_with fail;refine HV.o.mono ?_;rintro ex w2 ⟨rfl,hb2⟩;have T2:=hid (T1.o.trans (Turn.of_below hb2));have N2:=hid (N1.o.keep (hb2.block _ N1.o.lt));clear hb2;go_wp2_with fail;go_ret2
  exact⟨⟨none,HEX.o,rfl⟩,N2.o,T2.o⟩
 |some x=>
  obtain⟨u,rfl,hu⟩:=hrr;obtain⟨qa,qc,rfl⟩:=hu.form;have HU:Hid (Sl (fun b=>b<w1.heap.size) w1 (.slice qa x.length qc) x):=hu.keep (fun _ hg=>hg.2) fun _ _=>rfl;have HV:=hid (uq x w1.heap.size _ w1 HU.o nl (HZ.o x HEX.o));clear hu;obtain⟨qn,Hqn⟩:∃x',Hid (x.length=x'):=⟨_,hid rfl⟩;rw[Hqn.o]at HV;rw[Hqn.o];obtain⟨tx,Gv⟩:∃x',Hid (Sp.written x=x'):=⟨_,hid rfl⟩;rw[Gv.o]at HV;go_wp2_with fail;refine HV.o.mono ?_;rintro ex w2 ⟨rfl,hb2⟩;have T2:=hid (T1.o.trans (Turn.of_below hb2));have N2:=hid (N1.o.keep (hb2.block _ N1.o.lt));clear hb2;go_wp2_with fail;go_ret2
  exact⟨⟨some x,HEX.o,by rw[<-Gv.o];rfl⟩,N2.o,T2.o⟩
structure IpI(B:Nat)(w:WD)(p:aI)(a:Option Addr)(cap:Nat)(wa:Option Addr)(wc:Nat)(bs:List Nat)(kb:Nat)(F:Nat->BY->Option jS)(lp:Nat->BY->Bool)(x0 x1 x2 x3:Av)(wr:WD):Prop where
 k:K3 wr w.heap.size (.slice a p.length cap) (.slice wa bs.length wc) (.map (some kb))
 v:VB wr (w.heap.size+1) x0 x1 x2 x3
 r:VB wr (w.heap.size+1+1) (.int .i64 0) (.string ⟨#[]⟩) (.string ⟨#[]⟩) (.slice none 0 0)
 c:lV B wr p a cap wa wc bs kb F lp
 t:Turn kb w wr
section
variable {B:Nat} {w wr w':WD} {p:aI} {a:Option Addr} {cap:Nat} {wa:Option Addr} {wc:Nat} {bs:List Nat} {kb:Nat} {F:Nat->BY->Option jS} {lp:Nat->BY->Bool} {x0 x1 x2 x3:Av}
theorem IpI.turn(h:IpI B w p a cap wa wc bs kb F lp x0 x1 x2 x3 wr)(hk:kb<w.heap.size)(ht:Turn kb wr w')(hn:kX w' kb p F lp):IpI B w p a cap wa wc bs kb F lp x0 x1 x2 x3 w':=⟨(show _=_ from(ht.block _ h.k.lt oo).trans h.k),h.v.turn ht oo,h.r.turn ht oo,h.c.turn ht hn,h.t.trans ht⟩
theorem IpI.next(h:IpI B w p a cap wa wc bs kb F lp x0 x1 x2 x3 wr)(hk:kb<w.heap.size)(hb:Below wr.heap.size wr w'):IpI B w p a cap wa wc bs kb F lp x0 x1 x2 x3 w':=h.turn hk (Turn.of_below hb) (h.c.below hb).DU
end
theorem ZE{p:aI}{V:Nat->BY->Option (List Nd)}{lp:Nat->BY->Bool}{e:Nat}{q t:BY}(h:CvI p V lp (e:Int) q t):Cv p V lp e q t:=by unfold CvI at h;rw[if_neg oo]at h;exact h
theorem afm(w:WD)(x0 x1 x2 y0 y1 y2 y3:Av):
  K3 (((w.alloc (.cells #[x0,x1,x2] 77)).alloc (.cells #[y0,y1,y2,y3] 199)).alloc (.cells #[.int .i64 0,.string ⟨#[]⟩,.string ⟨#[]⟩,.slice none 0 0] 199)) w.heap.size x0 x1 x2 /\
  VB (((w.alloc (.cells #[x0,x1,x2] 77)).alloc (.cells #[y0,y1,y2,y3] 199)).alloc (.cells #[.int .i64 0,.string ⟨#[]⟩,.string ⟨#[]⟩,.slice none 0 0] 199)) (w.heap.size+1) y0 y1 y2 y3 /\
  VB (((w.alloc (.cells #[x0,x1,x2] 77)).alloc (.cells #[y0,y1,y2,y3] 199)).alloc (.cells #[.int .i64 0,.string ⟨#[]⟩,.string ⟨#[]⟩,.slice none 0 0] 199)) (w.heap.size+1+1) (.int .i64 0) (.string ⟨#[]⟩) (.string ⟨#[]⟩) (.slice none 0 0) /\
  Below w.heap.size w (((w.alloc (.cells #[x0,x1,x2] 77)).alloc (.cells #[y0,y1,y2,y3] 199)).alloc (.cells #[.int .i64 0,.string ⟨#[]⟩,.string ⟨#[]⟩,.slice none 0 0] 199)):=by
 refine⟨((K3.new w _ _ _).below (Ax.alloc nl _)).below (Ax.alloc nl _),?_,?_,((Ax.alloc nl _).alloc Ab _).alloc An _⟩
 .have:=VB.new (w.alloc (.cells #[x0,x1,x2] 77)) y0 y1 y2 y3;rw[World.size_alloc]at this;exact this.alloc _
 .have:=VB.new ((w.alloc (.cells #[x0,x1,x2] 77)).alloc (.cells #[y0,y1,y2,y3] 199)) (.int .i64 0) (.string ⟨#[]⟩) (.string ⟨#[]⟩) (.slice none 0 0);rw[World.size_alloc,World.size_alloc]at this;exact this
theorem sF{kb:Nat}{w w':WD}(h:Turn kb w w'){b:Nat}(hb:w.heap.size<=b)(x0 x1 x2 x3:Av):Turn kb w ((((w'.setCell ⟨b,0,none⟩ x0).setCell ⟨b,1,none⟩ x1).setCell ⟨b,2,none⟩ x2).setCell ⟨b,3,none⟩ x3):=EX h hb x0 x1 x2 x3
theorem aku(B:Nat)(p:aI)(a:Option Addr)(cap:Nat)(wa:Option Addr)(wc:Nat)(bs:List Nat)(kb:Nat)(F:Nat->BY->Option jS)(lp:Nat->BY->Bool)(e f:Nat)(n:Nd)(hv:kD n.t=true)
  (hcom:∀nm hf fb,Gm n.kids=some (nm,hf,fb)->DX B p a cap wa wc bs kb F lp (e:Int) nm)
  (hsub:∀nm fb,Gm n.kids=some (nm,true,fb)->akt B p a cap wa wc bs kb F lp e f fb/\∀x,Ex p (kJ F) lp e f fb (some x)->(Sp.written x).size<=4000000)
  (hsz:∀q t,Cv p (kJ F) lp e q t->t.size<=4000000):al9 B p a cap wa wc bs kb F lp e (f+1) n:=by
 intro kv w h hC;have HK:=hid h;have HCO:=hid hcom;have HSB:=hid hsub;have HSZ:=hid hsz;have HVT:=hid hv;have hkl:=hC.DU.lt;have hBw:=hC.cas.pg.lt;obtain⟨ka,kc,rfl⟩:=h.form;obtain⟨kn,Hkn⟩:=Nm n.kids.length;rw[Hkn.o]at HK;rw[Hkn.o];unfold fB;obtain⟨z1,z2,z3,z4⟩:=afm w (.slice a p.length cap) (.slice wa bs.length wc) (.map (some kb)) (.int .i64 n.t.kind) (.string n.t.word) (.string n.t.unit) (.slice ka kn kc);have B0:=hid z4
 have I0:Hid (IpI B w p a cap wa wc bs kb F lp (.int .i64 n.t.kind) (.string n.t.word) (.string n.t.unit) (.slice ka kn kc) (((w.alloc (.cells #[.slice a p.length cap,.slice wa bs.length wc,.map (some kb)] 77)).alloc (.cells #[.int .i64 n.t.kind,.string n.t.word,.string n.t.unit,.slice ka kn kc] 199)).alloc (.cells #[.int .i64 0,.string ⟨#[]⟩,.string ⟨#[]⟩,.slice none 0 0] 199))):=⟨z1,z2,z3,hC.below z4,Turn.of_below z4⟩;clear h hcom hsub hsz hv hC z1 z2 z3 z4;go_in;go_upto_region 1 with fail
 generalize(((w.alloc (.cells #[.slice a p.length cap,.slice wa bs.length wc,.map (some kb)] 77)).alloc (.cells #[.int .i64 n.t.kind,.string n.t.word,.string n.t.unit,.slice ka kn kc] 199)).alloc (.cells #[.int .i64 0,.string ⟨#[]⟩,.string ⟨#[]⟩,.slice none 0 0] 199))=w0 at *;have hs0:=B0.o.size;obtain⟨a0,a1,a2,a3⟩:=I0.o.v.cs;have HRV:=hid (NV B n.kids _ w0 (HK.o.below B0.o hBw) oo);go_wp2_with fail;refine HRV.o.mono ?_;rintro ex w1 ⟨hrd,hb1⟩;have I1:=hid (I0.o.next hkl hb1);clear hb1 a0 a1 a2 a3 I0 HRV;cases hr:Gm n.kids with
 |none=>
  rw[hr]at hrd;have WJ:ex=_:=hrd;subst WJ;have Vf:=hid (En.unread (p:=p) (V:=kJ F) (lp:=lp) (e:=e) (f:=f) HVT.o hr);clear hr hrd;unfold abH;have X2:Hid (Below w1.heap.size w1 (w1.alloc (.cells #[.string ⟨#[]⟩,.bool false,.slice none 0 0] 327))):=Ax.alloc nl _;go_upto_region 2 with fail
  generalize w1.alloc (.cells #[.string ⟨#[]⟩,.bool false,.slice none 0 0] 327)=w2 at *;have I2:=hid (I1.o.next hkl X2.o);obtain⟨r0,r1,r2,r3⟩:=I2.o.r.cs;have f0:=I2.o.r.fz 0;have f1:=I2.o.r.fz 1;have f2:=I2.o.r.fz 2;have f3:=I2.o.r.fz 3;have N2:Hid (kX ((((w2.setCell ⟨w.heap.size+1+1,0,none⟩ (.int .i64 0)).setCell ⟨w.heap.size+1+1,1,none⟩ (.string ⟨#[]⟩)).setCell ⟨w.heap.size+1+1,2,none⟩ (.string ⟨#[]⟩)).setCell ⟨w.heap.size+1+1,3,none⟩ (.slice none 0 0)) kb p F lp):=I2.o.c.DU.keep (ni w2 (w.heap.size+1+1) _ _ _ _ (show kb≠w.heap.size+1+1 by omega));have T2:=hid (sF I2.o.t (b:=w.heap.size+1+1) oo (.int .i64 0) (.string ⟨#[]⟩) (.string ⟨#[]⟩) (.slice none 0 0));go_wp2_with fail
  refine bodyPost_ret (v:=.tuple #[.agg #[.int .i64 0,.string ⟨#[]⟩,.string ⟨#[]⟩,.slice none 0 0],.bool false]) (by simp[results,Tryz.results233,go_sem,r0,r1,r2,r3]) rfl ?_;exact⟨⟨none,Vf.o,⟨0,⟨#[]⟩,⟨#[]⟩⟩,rfl⟩,N2.o,T2.o⟩
 |some x=>
  obtain⟨nm,hf,fb⟩:=x;rw[hr]at hrd;obtain⟨fv,rfl,hfv,hnm⟩:=hrd;obtain⟨fa,fc,rfl⟩:=hfv.form;have HFB:=hid hfv;have HCN:=hid (HCO.o nm hf fb hr);have HR:=hid hr;clear hr hfv;obtain⟨fl,Hfl⟩:=Nm fb.length;rw[Hfl.o]at HFB;rw[Hfl.o];unfold abH;have X2:Hid (Below w1.heap.size w1 (w1.alloc (.cells #[.string nm,.bool hf,.slice fa fl fc] 327))):=Ax.alloc nl _;have U2:Hid (U3 (w1.alloc (.cells #[.string nm,.bool hf,.slice fa fl fc] 327)) w1.heap.size (.string nm) (.bool hf) (.slice fa fl fc)):=U3.new _ _ _ _;go_upto_region 2 with fail
  generalize w1.alloc (.cells #[.string nm,.bool hf,.slice fa fl fc] 327)=w2 at *;obtain⟨ub,Hub⟩:=Nm w1.heap.size;have hub:=Hub.o;have hs1:=I1.o.t.size;rw[Hub.o]at U2;rw[Hub.o];have I2:=hid (I1.o.next hkl X2.o);have FB2:=hid (HFB.o.below X2.o oo);clear X2 I1 HFB;obtain⟨k0,k1,k2⟩:=I2.o.k.cs;obtain⟨q0,q1,q2⟩:=U2.o.cs;go_wp2_with fail;refine(HCN.o w2 I2.o.c).mono ?_;rintro ex w3 ⟨⟨t,rfl,hcv⟩,amd,ht3⟩;have wH:Hid (Cv p (kJ F) lp e nm t):=ZE hcv;have I3:=hid (I2.o.turn hkl ht3 amd);have Vm:Hid (U3 w3 ub (.string nm) (.bool hf) (.slice fa fl fc)):=(show _=_ from(ht3.block _ U2.o.lt oo).trans U2.o);have FB3:=hid (FB2.o.below (ht3.below I2.o.c.lo I2.o.c.cas.pg.lt) nl);clear hcv amd ht3 k0 k1 k2 q0 q1 q2 I2 U2 FB2 HCN;obtain⟨k0,k1,k2⟩:=I3.o.k.cs;obtain⟨q0,q1,q2⟩:=Vm.o.cs;by_cases ht:t=aA
  .have hte:(t.toList==[])=true:=by rw[ay];exact decide_eq_true ht
   have HCB:Hid (Cv p (kJ F) lp e nm aA):=by rw[<-ht];exact wH.o
   clear ht;cases hf with
   |false=>
    have Vf:=hid (En.none (f:=f) HVT.o HR.o HCB.o);obtain⟨r0,r1,r2,r3⟩:=I3.o.r.cs;have f0:=I3.o.r.fz 0;have f1:=I3.o.r.fz 1;have f2:=I3.o.r.fz 2;have f3:=I3.o.r.fz 3;have N9:Hid (kX ((((w3.setCell ⟨w.heap.size+1+1,0,none⟩ (.int .i64 0)).setCell ⟨w.heap.size+1+1,1,none⟩ (.string ⟨#[]⟩)).setCell ⟨w.heap.size+1+1,2,none⟩ (.string ⟨#[]⟩)).setCell ⟨w.heap.size+1+1,3,none⟩ (.slice none 0 0)) kb p F lp):=I3.o.c.DU.keep (ni w3 (w.heap.size+1+1) _ _ _ _ (show kb≠w.heap.size+1+1 by omega));have T9:=hid (sF I3.o.t (b:=w.heap.size+1+1) oo (.int .i64 0) (.string ⟨#[]⟩) (.string ⟨#[]⟩) (.slice none 0 0));go_wp2_with fail;refine bodyPost_ret (v:=.tuple #[.agg #[.int .i64 0,.string ⟨#[]⟩,.string ⟨#[]⟩,.slice none 0 0],.bool false]) (by simp[results,Tryz.results233,go_sem,r0,r1,r2,r3]) rfl ?_
    exact⟨⟨none,Vf.o,⟨0,⟨#[]⟩,⟨#[]⟩⟩,rfl⟩,N9.o,T9.o⟩
   |true=>
    obtain⟨hsb,hss⟩:=HSB.o nm fb HR.o;have sS:=hid hss;have sH:=hid (hsb _ w3 FB3.o I3.o.c);clear hsb hss;go_wp2_with fail;refine sH.o.mono ?_;rintro ex w4 ⟨⟨r,hex,rfl⟩,UN,ZC⟩;have Vf:=hid (En.back (f:=f) HVT.o HR.o HCB.o hex);have HEX:=hid hex;have I4:=hid (I3.o.turn hkl ZC UN);clear hex UN ZC k0 k1 k2 q0 q1 q2 I3 Vm FB3 sH hte;cases r with
    |none=>
     have ahQ:Hid (En p (kJ F) lp e (f+1) n none):=Vf.o;have Hst:Hid (XY none=⟨#[]⟩):=rfl;rw[Hst.o];obtain⟨r0,r1,r2,r3⟩:=I4.o.r.cs;have f0:=I4.o.r.fz 0;have f1:=I4.o.r.fz 1;have f2:=I4.o.r.fz 2;have f3:=I4.o.r.fz 3;have N9:Hid (kX ((((w4.setCell ⟨w.heap.size+1+1,0,none⟩ (.int .i64 (-1))).setCell ⟨w.heap.size+1+1,1,none⟩ (.string ⟨#[]⟩)).setCell ⟨w.heap.size+1+1,2,none⟩ (.string ⟨#[]⟩)).setCell ⟨w.heap.size+1+1,3,none⟩ (.slice none 0 0)) kb p F lp):=I4.o.c.DU.keep (ni w4 (w.heap.size+1+1) _ _ _ _ (show kb≠w.heap.size+1+1 by omega));have T9:=hid (sF I4.o.t (b:=w.heap.size+1+1) oo (.int .i64 (-1)) (.string ⟨#[]⟩) (.string ⟨#[]⟩) (.slice none 0 0));go_wp2_with fail
     refine bodyPost_ret (v:=.tuple #[.agg #[.int .i64 (-1),.string ⟨#[]⟩,.string ⟨#[]⟩,.slice none 0 0],.bool false]) (by simp[results,Tryz.results233,go_sem,r0,r1,r2,r3]) rfl ?_;exact⟨⟨none,ahQ.o,⟨-1,⟨#[]⟩,⟨#[]⟩⟩,rfl⟩,N9.o,T9.o⟩
    |some x=>
     have ahQ:Hid (En p (kJ F) lp e (f+1) n (some (wI (Sp.written x)))):=Vf.o;have hwz:=sS.o x HEX.o;obtain⟨tx,Gv⟩:∃x',Hid (Sp.written x=x'):=⟨_,hid rfl⟩;have Hst:Hid (XY (some x)=tx):=Gv.o;rw[Gv.o]at ahQ hwz;rw[Hst.o];obtain⟨r0,r1,r2,r3⟩:=I4.o.r.cs;have f0:=I4.o.r.fz 0;have f1:=I4.o.r.fz 1;have f2:=I4.o.r.fz 2;have f3:=I4.o.r.fz 3;have N9:Hid (kX ((((w4.setCell ⟨w.heap.size+1+1,0,none⟩ (.int .i64 (-1))).setCell ⟨w.heap.size+1+1,1,none⟩ (.string tx)).setCell ⟨w.heap.size+1+1,2,none⟩ (.string ⟨#[]⟩)).setCell ⟨w.heap.size+1+1,3,none⟩ (.slice none 0 0)) kb p F lp):=I4.o.c.DU.keep (ni w4 (w.heap.size+1+1) _ _ _ _ (show kb≠w.heap.size+1+1 by omega));have T9:=hid (sF I4.o.t (b:=w.heap.size+1+1) oo (.int .i64 (-1)) (.string tx) (.string ⟨#[]⟩) (.slice none 0 0));go_wp2_with fail
     refine bodyPost_ret (v:=.tuple #[.agg #[.int .i64 (-1),.string tx,.string ⟨#[]⟩,.slice none 0 0],.bool true]) (by simp[results,Tryz.results233,go_sem,r0,r1,r2,r3]) rfl ?_;exact⟨⟨some (wI tx),ahQ.o,tx,rfl,hwz,rfl⟩,N9.o,T9.o⟩
  .have hte:(t.toList==[])=false:=by rw[ay];exact decide_eq_false ht
   have Vf:=hid (En.text (f:=f) HVT.o HR.o wH.o ht);have hsz:=HSZ.o nm t wH.o;clear ht;obtain⟨r0,r1,r2,r3⟩:=I3.o.r.cs;have f0:=I3.o.r.fz 0;have f1:=I3.o.r.fz 1;have f2:=I3.o.r.fz 2;have f3:=I3.o.r.fz 3;have N9:Hid (kX ((((w3.setCell ⟨w.heap.size+1+1,0,none⟩ (.int .i64 (-1))).setCell ⟨w.heap.size+1+1,1,none⟩ (.string t)).setCell ⟨w.heap.size+1+1,2,none⟩ (.string ⟨#[]⟩)).setCell ⟨w.heap.size+1+1,3,none⟩ (.slice none 0 0)) kb p F lp):=I3.o.c.DU.keep (ni w3 (w.heap.size+1+1) _ _ _ _ (show kb≠w.heap.size+1+1 by omega));have T9:=hid (sF I3.o.t (b:=w.heap.size+1+1) oo (.int .i64 (-1)) (.string t) (.string ⟨#[]⟩) (.slice none 0 0));go_wp2_with fail;refine bodyPost_ret (v:=.tuple #[.agg #[.int .i64 (-1),.string t,.string ⟨#[]⟩,.slice none 0 0],.bool true]) (by simp[results,Tryz.results233,go_sem,r0,r1,r2,r3]) rfl ?_
   exact⟨⟨some (wI t),Vf.o,t,rfl,hsz,rfl⟩,N9.o,T9.o⟩
end
section
theorem NY{a b:List Nd}(h:a.Sublist b):depth a<=depth b:=by
 induction h with
 |slnil=>exact Nat.le_refl _
 |cons x _ ih=>
  conv=>rhs;unfold depth
  omega
 |cons_cons x _ ih=>
  conv=>lhs;unfold depth
  conv=>rhs;unfold depth
  omega
theorem ahR{a b:List Nd}(h:a.Sublist b):∀x∈lW a,x∈lW b:=by
 induction h with
 |slnil=>exact fun _ h=>h
 |cons n _ ih=>intro x hx;rw[yM];exact List.mem_append_right _ (ih x hx)
 |cons_cons n _ ih=>
  intro x hx;rw[yM]at hx⊢;rcases List.mem_append.1 hx with hx|hx
  .exact List.mem_append_left _ hx
  .exact List.mem_append_right _ (ih x hx)
theorem XZ:∀(l:List Nd) (n:Nd),n∈l->∀x∈nmN n,x∈lW l
 |m::r,n,h,x,hx=>by
  rw[yM];rcases List.mem_cons.1 h with rfl|h
  .exact List.mem_append_left _ hx
  .exact List.mem_append_right _ (XZ r n h x hx)
theorem EY:∀(l:List Nd) (n:Nd),n∈l->eU n<=depth l
 |m::r,n,h=>by
  conv=>rhs;unfold depth
  rcases List.mem_cons.1 h with rfl|h
  .omega
  .have:=EY r n h;omega
theorem NZ(n:Nd):eU n=if closing n.t=aA then 0 else depth n.kids+1:=by
 cases n with
 |mk t k=>
  conv=>lhs;unfold eU
  rfl
theorem UQ{t:Tok}(h:kD t=true):closing t≠aA:=by
 unfold kD at h;simp only[Bool.and_eq_true,decide_eq_true_eq]at h;unfold closing;rw[if_pos h.1];exact fun h=>by have h2:(1:Nat)=0:=congrArg ByteArray.size h;omega
theorem UR{p:aI}{V:Nat->BY->Option (List Nd)}{lp:Nat->BY->Bool}{e f:Nat}{r:Option (List Nd)}(h:Ex p V lp e f [] r):r=some []:=by obtain⟨n,hn⟩:=h;rw[<-hn n nl];rfl
theorem UU{p:aI}{V:Nat->BY->Option (List Nd)}{lp:Nat->BY->Bool}{e f:Nat}{m:Nd}{r:Option (List Nd)}(hv:kD m.t=false)(h:Ex p V lp e f m.kids r):En p V lp e (f+1) m (r.map (fun k=>.mk m.t k)):=by
 cases r with
 |none=>exact En.ae5 hv h
 |some k=>exact En.plain hv h
theorem ZF(B:Nat)(p:aI)(a:Option Addr)(cap:Nat)(wa:Option Addr)(wc:Nat)(bs:List Nat)(kb:Nat)(F:Nat->BY->Option jS)(lp:Nat->BY->Bool)(e:Nat)(hV:∀e q v,kJ F e q=some v->dL v<=12000):∀(f:Nat) (l:List Nd),depth l<=f->gL l->Ac (Gn 12000) l<=2000000->(∀nm∈lW l,DX B p a cap wa wc bs kb F lp (e:Int) nm)->ahP B p a cap wa wc bs kb F lp e f l
 |0,l,hd,hg,_,_=>by
  have h0:∀n∈l,closing n.t=aA:=fun n hn=>by
   have h1:=EY l n hn;rw[NZ]at h1;by_cases hc:closing n.t=aA
   .exact hc
   .rw[if_neg hc]at h1;omega
  refine XW B p a cap wa wc bs kb F lp e 0 l (fun n hn hv=>?_) (fun n hn hv=>absurd (h0 n hn) (UQ hv));have hk:n.kids=[]:=((Ba n).1 ((yh l).1 hg n hn)).2.2.1 (h0 n hn);refine⟨0,?_,fun r hr=>?_⟩
  .rw[hk];exact XW B p a cap wa wc bs kb F lp e 0 [] (fun n hn=>by cases hn) (fun n hn=>by cases hn)
  .rw[hk]at hr;rw[UR hr];exact En.leaf
 |f+1,l,hd,hg,hm,hc=>by
  have ih:=ZF B p a cap wa wc bs kb F lp e hV f;have hgn:∀n∈l,gN n:=fun n hn=>(yh l).1 hg n hn;have ame:∀n∈l,depth n.kids<=f/\gL n.kids/\Ac (Gn 12000) n.kids<=2000000/\∀nm∈lW n.kids,DX B p a cap wa wc bs kb F lp (e:Int) nm:=by
   intro n hn;have h1:=EY l n hn;have h2:=(Ba n).1 (hgn n hn);have h3:=PU (Gn 12000) l n hn;rw[KA]at h3;rw[NZ]at h1;refine⟨?_,h2.2.2.2,oo,fun nm hnm=>hc nm (XZ l n hn nm (by rw[XT];exact List.mem_append_right _ hnm))⟩;by_cases hcl:closing n.t=aA
   .rw[h2.2.2.1 hcl];unfold depth;omega
   .rw[if_neg hcl]at h1;omega
  refine XW B p a cap wa wc bs kb F lp e (f+1) l (fun n hn hv=>?_) (fun n hn hv=>?_)
  .obtain⟨k1,k2,k3,k4⟩:=ame n hn;exact⟨f,ih n.kids k1 k2 k3 k4,fun r hr=>UU hv hr⟩
  .obtain⟨k1,k2,k3,k4⟩:=ame n hn;refine aku B p a cap wa wc bs kb F lp e f n hv (fun nm hf fb hr=>hc nm (XZ l n hn nm ?_)) (fun nm fb hr=>?_) (fun q t ht=>by have:=Cv.size (M:=12000) oo hV ht;omega)
   .rw[XT,if_pos hv];refine List.mem_append_left _ ?_;unfold nmV;rw[hr];simp
   .have hs:=(KD hr).1;have hmu:=PS (Gn 12000) hs;have hrep:=ih fb (Nat.le_trans (NY hs) k1) (qw k2 fun m hm=>hs.subset hm) oo fun x hx=>k4 x (ahR hs x hx);refine⟨afl B p a cap wa wc bs kb F lp e f fb hrep fun x hx=>?_,fun x hx=>?_⟩
    .have:=(Ex.size (M:=12000) oo hV hx).2;omega
    .have h1:=(Ex.size (M:=12000) oo hV hx).1;have h2:=NT x;omega
theorem ahS(B:Nat)(p:aI)(a:Option Addr)(cap:Nat)(wa:Option Addr)(wc:Nat)(bs:List Nat)(kb:Nat)(F:Nat->BY->Option jS)(lp:Nat->BY->Bool)(e:Nat)(hV:∀e q v,kJ F e q=some v->dL v<=12000)(f:Nat)(l:List Nd)(hd:depth l<=f)(hg:gL l)(hm:Ac (Gn 12000) l<=2000000)(hc:∀nm∈lW l,DX B p a cap wa wc bs kb F lp (e:Int) nm):akt B p a cap wa wc bs kb F lp e f l:=afl B p a cap wa wc bs kb F lp e f l (ZF B p a cap wa wc bs kb F lp e hV f l hd hg hm hc) fun x hx=>by have:=(Ex.size (M:=12000) oo hV hx).2;omega
def Pa(p:aI)(V:Nat->BY->Option (List Nd))(lp:Nat->BY->Bool)(e:Nat)(s t:BY):Prop:=∃n0,∀n,n0<=n->paV p (wJ p V lp n) e s=t
def Dn(p:aI)(V:Nat->BY->Option (List Nd))(lp:Nat->BY->Bool)(e:Nat)(s t:BY):Prop:=∃n0,∀n,n0<=n->dnV p (wJ p V lp n) e s=t
section
variable {p:aI} {V:Nat->BY->Option (List Nd)} {lp:Nat->BY->Bool} {e:Nat} {s t:BY}
theorem aiG(h:CvI p V lp (parentOf p e) s t):Pa p V lp e s t:=by
 unfold CvI at h;by_cases h0:parentOf p e<0
 .rw[if_pos h0]at h;refine⟨0,fun n _=>?_⟩;unfold paV;rw[if_pos h0,h]
 .rw[if_neg h0]at h;obtain⟨n0,hn⟩:=h;refine⟨n0,fun n hle=>?_⟩;unfold paV;rw[if_neg h0];exact hn n hle
theorem ahT(h:handed s=false):Dn p V lp e s aA:=⟨0,fun n _=>by unfold dnV;rw[if_neg (by rw[h];simp)]⟩
theorem amf(h:handed s=true)(k:Pa p V lp e s t):Dn p V lp e s t:=by obtain⟨n0,hn⟩:=k;exact⟨n0,fun n hle=>by unfold dnV;rw[if_pos h];exact hn n hle⟩
end
theorem aiH(s:BY):hdB s=handed s:=by unfold hdB handed ab8 aif Yu;cases custom s<;>simp
theorem nZ(B:Nat)(p:aI)(a:Option Addr)(cap:Nat)(wa:Option Addr)(wc:Nat)(bs:List Nat)(kb:Nat)(F:Nat->BY->Option jS)(lp:Nat->BY->Bool)(e:Nat)(s:BY)(w:WD)(h:lV B w p a cap wa wc bs kb F lp)(he:e<p.length)(hq:DX B p a cap wa wc bs kb F lp (parentOf p e) s):
  Calls prog 99 #[.agg #[.slice a p.length cap,.slice wa bs.length wc,.map (some kb)],.int .i64 (e:Int),.string s] w
   fun ex w'=>(∃t,ex=.returned (.string t)/\Dn p (kJ F) lp e s t)/\kX w' kb p F lp/\Turn kb w w':=by
 have B0:Hid (Below w.heap.size w (w.alloc (.cells #[.slice a p.length cap,.slice wa bs.length wc,.map (some kb)] 77))):=Ax.alloc nl _;have K0:Hid (K3 (w.alloc (.cells #[.slice a p.length cap,.slice wa bs.length wc,.map (some kb)] 77)) w.heap.size (.slice a p.length cap) (.slice wa bs.length wc) (.map (some kb))):=K3.new _ _ _ _;have S0:=hid (h.below B0.o);have hkl:=h.DU.lt;have HQ:=hid hq;clear h hq;obtain⟨z,Hz⟩:=Nm (hdB s);go_in;go_wp2_with fail;generalize w.alloc (.cells #[.slice a p.length cap,.slice wa bs.length wc,.map (some kb)] 77)=w0 at *;obtain⟨cb,Hcb⟩:=Nm w.heap.size;rw[Hcb.o]at K0;rw[Hcb.o];refine(JY s w0).mono ?_;rw[Hz.o]
 rintro ex wq ⟨rfl,hwq⟩;rw[hwq];clear hwq;cases z
 .have HT:Hid (Turn kb w w0):=Turn.of_below B0.o;have HD:Hid (Dn p (kJ F) lp e s aA):=ahT (by rw[<-aiH];exact Hz.o);go_wp2_with fail;go_ret;exact⟨⟨aA,rfl,HD.o⟩,S0.o.DU,HT.o⟩
 .go_wp2_with fail;refine wp_region_any Ao ?_;change wpAny _ _ _ _ _ _ _ (World.drew _);have sS:Hid ((fun wx:WD=>K3 wx cb (.slice a p.length cap) (.slice wa bs.length wc) (.map (some kb))) w0.drew):=K0.o;refine wpAny_of_held (S:=(fun wx:WD=>K3 wx cb (.slice a p.length cap) (.slice wa bs.length wc) (.map (some kb)))) _ _ _ _ ?_;refine dH 0 rfl sS.o (by intro w hSw;obtain⟨k0,k1,k2⟩:=K3.cs hSw;exact gs) ?_;refine dH 1 rfl sS.o (by intro w hSw;obtain⟨k0,k1,k2⟩:=K3.cs hSw;exact gs) ?_;refine dH 2 rfl sS.o (by intro w hSw;obtain⟨k0,k1,k2⟩:=K3.cs hSw;exact gs) ?_;refine dH 3 rfl sS.o (by intro w hSw;obtain⟨k0,k1,k2⟩:=K3.cs hSw;exact gs) ?_
  refine dH 5 rfl sS.o (by intro w hSw;obtain⟨k0,k1,k2⟩:=K3.cs hSw;exact gs) ?_;refine iW 4 fun K hK=>?_;go_simp;have B1:Hid (Below w.heap.size w w0.drew):=B0.o.drew;have S1:Hid (lV B w0.drew p a cap wa wc bs kb F lp):=S0.o.below (Ax.drew);refine(TS B p a cap e w0.drew S1.o.cas.pg he).mono ?_;rintro ex w2 ⟨rfl,hb2⟩;have B2:=hid (AC B1.o hb2);have S2:=hid (S1.o.below hb2);have HS2:Hid ((fun wx:WD=>K3 wx cb (.slice a p.length cap) (.slice wa bs.length wc) (.map (some kb))) w2):=K3.below sS.o hb2;clear hb2;refine hK.o _ _ HS2.o (fun _=>?_);clear hK K;refine iW 6 fun K hK=>?_;go_simp;refine(HQ.o w2 S2.o).mono ?_;rintro ex w3 ⟨⟨t,rfl,hcv⟩,hk3,ht3⟩;have HD:Hid (Dn p (kJ F) lp e s t):=amf (by rw[<-aiH];exact Hz.o) (aiG hcv);clear hcv
  have HK3:=hid hk3;have HT:Hid (Turn kb w w3):=(Turn.of_below B2.o).trans ht3;have HS3:Hid ((fun wx:WD=>K3 wx cb (.slice a p.length cap) (.slice wa bs.length wc) (.map (some kb))) w3):=(show _=_ from(ht3.block cb (K3.lt HS2.o) (by have:=Hcb.o;omega)).trans HS2.o);clear hk3 ht3;refine hK.o _ _ HS3.o (fun _=>?_);clear hK K;refine dH 7 rfl HS3.o (fun _ _=>gs) ?_;refine wpAnyH_done Ao ?_ _;go_wp2_with fail;go_ret;exact⟨⟨t,rfl,HD.o⟩,HK3.o,HT.o⟩
end
section
section
variable {p:aI} {V:Nat->BY->Option (List Nd)} {lp:Nat->BY->Bool} {e:Nat} {s t:BY} {v:List Nd}
theorem ahU(h:V e s=none)(k:Dn p V lp e s t):Cv p V lp e s t:=by obtain⟨n0,hn⟩:=k;refine Cv.step ⟨n0,fun n hle=>?_⟩;unfold Bq;rw[h];exact hn n hle
theorem UW(h:V e s=some v)(h1:(Sp.isWord v Sp.lN||jg zB v)=true)(k:Dn p V lp e s t):Cv p V lp e s t:=by obtain⟨n0,hn⟩:=k;refine Cv.step ⟨n0,fun n hle=>?_⟩;unfold Bq;rw[h];simp only;rw[if_pos h1];exact hn n hle
theorem X8(h:V e s=some v)(h1:(Sp.isWord v Sp.lN||jg zB v)=false)(h2:Sp.isWord v Sp.jU=true)(k:Pa p V lp e s t):Cv p V lp e s t:=by obtain⟨n0,hn⟩:=k;refine Cv.step ⟨n0,fun n hle=>?_⟩;unfold Bq;rw[h];simp only;rw[if_neg (by rw[h1];simp),if_pos h2];exact hn n hle
theorem X9(h:V e s=some v)(h1:(Sp.isWord v Sp.lN||jg zB v)=false)(h2:Sp.isWord v Sp.jU=false)(h3:Sp.isWord v Sp.nInitial=true):Cv p V lp e s aA:=by refine Cv.step ⟨0,fun n hle=>?_⟩;unfold Bq;rw[h];simp only;rw[if_neg (by rw[h1];simp),if_neg (by rw[h2];simp),if_pos h3]
theorem afn(h:V e s=some v)(h1:(Sp.isWord v Sp.lN||jg zB v)=false)(h2:Sp.isWord v Sp.jU=false)(h3:Sp.isWord v Sp.nInitial=false)(h4:jg kD v=false):Cv p V lp e s (Sp.written v):=by refine Cv.step ⟨0,fun n hle=>?_⟩;unfold Bq;rw[h];simp only;rw[if_neg (by rw[h1];simp),if_neg (by rw[h2];simp),if_neg (by rw[h3];simp),if_pos h4]
theorem ahV(h:V e s=some v)(h1:(Sp.isWord v Sp.lN||jg zB v)=false)(h2:Sp.isWord v Sp.jU=false)(h3:Sp.isWord v Sp.nInitial=false)(h4:jg kD v=true)(h5:(custom s&&lp e s)=true):Cv p V lp e s aA:=by refine Cv.step ⟨0,fun n hle=>?_⟩;unfold Bq;rw[h];simp only;rw[if_neg (by rw[h1];simp),if_neg (by rw[h2];simp),if_neg (by rw[h3];simp),if_neg (by rw[h4];simp),if_pos h5]
theorem ZG(h:V e s=some v)(h1:(Sp.isWord v Sp.lN||jg zB v)=false)(h2:Sp.isWord v Sp.jU=false)(h3:Sp.isWord v Sp.nInitial=false)(h4:jg kD v=true)(h5:(custom s&&lp e s)=false){r:Option (List Nd)}(hx:Ex p V lp e 9 v r)(h6:r=none\/400<(XY r).size)(k:Dn p V lp e s t):Cv p V lp e s t:=by
 obtain⟨n0,hn⟩:=k;obtain⟨n1,hn1⟩:=hx;refine Cv.step ⟨n0+n1,fun n hle=>?_⟩;unfold Bq;rw[h];simp only;rw[if_neg (by rw[h1];simp),if_neg (by rw[h2];simp),if_neg (by rw[h3];simp),if_neg (by rw[h4];simp),if_neg (by rw[h5];simp),hn1 n oo];cases r with
 |none=>exact hn n oo
 |some x=>simp only;rw[if_pos (by rcases h6 with h6|h6;cases h6;exact h6)];exact hn n oo
theorem akv(h:V e s=some v)(h1:(Sp.isWord v Sp.lN||jg zB v)=false)(h2:Sp.isWord v Sp.jU=false)(h3:Sp.isWord v Sp.nInitial=false)(h4:jg kD v=true)(h5:(custom s&&lp e s)=false){x:List Nd}(hx:Ex p V lp e 9 v (some x))(h6:¬400<(Sp.written x).size):Cv p V lp e s (Sp.written x):=by obtain⟨n1,hn1⟩:=hx;refine Cv.step ⟨n1,fun n hle=>?_⟩;unfold Bq;rw[h];simp only;rw[if_neg (by rw[h1];simp),if_neg (by rw[h2];simp),if_neg (by rw[h3];simp),if_neg (by rw[h4];simp),if_neg (by rw[h5];simp),hn1 n oo];simp only;rw[if_neg h6]
end
theorem N7(l:List Nd)(x:BY):wdL l x=Sp.isWord l x:=by
 unfold wdL Sp.isWord;match l with
 |[]=>rfl
 |[n]=>rfl
 |_::_::_=>rfl
structure FdR(B:Nat)(w:WD)(p:aI)(a:Option Addr)(cap:Nat)(wa:Option Addr)(wc:Nat)(bs:List Nat)(kb:Nat)(F:Nat->BY->Option jS)(lp:Nat->BY->Bool)(x:jS)(va:Option Addr)(vc nb:Nat)(wr:WD):Prop where
 k:K3 wr w.heap.size (.slice a p.length cap) (.slice wa bs.length wc) (.map (some kb))
 n:Wn wr nb x (.slice va x.val.length vc)
 s:lV B wr p a cap wa wc bs kb F lp
 v:Sl (fun g=>g<B) wr (.slice va x.val.length vc) x.val
 b:Turn kb w wr
section
variable {B:Nat} {w:WD} {p:aI} {a:Option Addr} {cap:Nat} {wa:Option Addr} {wc:Nat} {bs:List Nat} {kb:Nat} {F:Nat->BY->Option jS} {lp:Nat->BY->Bool} {x:jS} {va:Option Addr} {vc nb:Nat} {wr w':WD}
theorem FdR.turn(h:FdR B w p a cap wa wc bs kb F lp x va vc nb wr)(hk:kb<w.heap.size)(hnb:kb≠nb)(ht:Turn kb wr w')(hn:kX w' kb p F lp):FdR B w p a cap wa wc bs kb F lp x va vc nb w':=⟨(show _=_ from(ht.block _ h.k.lt oo).trans h.k),(show _=_ from(ht.block _ h.n.lt (fun q=>hnb q.symm)).trans h.n),h.s.turn ht hn,Sl.below h.v (ht.below h.s.lo h.s.cas.pg.lt) nl,h.b.trans ht⟩
theorem FdR.next(h:FdR B w p a cap wa wc bs kb F lp x va vc nb wr)(hb:Below wr.heap.size wr w'):FdR B w p a cap wa wc bs kb F lp x va vc nb w':=⟨h.k.below hb,h.n.below hb,h.s.below hb,Sl.below h.v hb h.s.cas.pg.lt,h.b.trans (Turn.of_below hb)⟩
theorem FdR.drew(h:FdR B w p a cap wa wc bs kb F lp x va vc nb wr):FdR B w p a cap wa wc bs kb F lp x va vc nb wr.drew:=h.next (Ax.drew)
end
structure afo(v:List Nd):Prop where
 wz:dL v<=12000
 mu:Ac (Gn 12000) v<=2000000
 dp:depth v<=9
 g:gL v
theorem akw(B:Nat)(p:aI)(a:Option Addr)(cap:Nat)(wa:Option Addr)(wc:Nat)(bs:List Nat)(kb:Nat)(F:Nat->BY->Option jS)(lp:Nat->BY->Bool)(e:Nat)(s:BY)(w:WD)(h:lV B w p a cap wa wc bs kb F lp)(hs:s.size<=4000000)(he:e<p.length)(hq:DX B p a cap wa wc bs kb F lp (parentOf p e) s)
  (hF:∀e q x,F e q=some x->afo x.val) (U:List BY) (hUl:U.length<=50000) (hU:∀q,∀z∈yO (kJ F) e q,z∈U/\z.size<=4000000) (hlp:lp e s=true↔Sp.Way (yO (kJ F) e) s s)
  (hnm:(custom s&&lp e s)=false->∀nm∈yO (kJ F) e s,DX B p a cap wa wc bs kb F lp (e:Int) nm):
  Calls prog 63 #[.agg #[.slice a p.length cap,.slice wa bs.length wc,.map (some kb)],.int .i64 (e:Int),.string s] w
   fun ex w'=>(∃t,ex=.returned (.string t)/\Cv p (kJ F) lp e s t)/\kX w' kb p F lp/\Turn kb w w':=by
 have B0:Hid (Below w.heap.size w (w.alloc (.cells #[.slice a p.length cap,.slice wa bs.length wc,.map (some kb)] 77))):=Ax.alloc nl _;have K0:Hid (K3 (w.alloc (.cells #[.slice a p.length cap,.slice wa bs.length wc,.map (some kb)] 77)) w.heap.size (.slice a p.length cap) (.slice wa bs.length wc) (.map (some kb))):=K3.new _ _ _ _;have S0:=hid (h.below B0.o);have hkl:=h.DU.lt;have hlen:=h.cas.pg.len;have hbl:=h.cas.len;have hcw:=h.cas.cap;have HQ:=hid hq;have HFx:=hid hF;have HU:=hid hU;have HLP:=hid hlp;have HNM:=hid hnm;have am9:Hid (∀e q v,kJ F e q=some v->dL v<=12000):=by
  intro e q v hv;unfold kJ at hv;cases hf:F e q with
  |none=>rw[hf]at hv;cases hv
  |some x=>rw[hf]at hv;cases hv;exact(hF e q x hf).wz
 clear h hq hF hU hlp hnm;have heb:e<bs.length:=oo;have h1:(e:Int)<(bs.length:Int):=oo;have al2:bs.length<=30:=oo;clear hbl;go_in;go_upto_region 1 with fail
 generalize w.alloc (.cells #[.slice a p.length cap,.slice wa bs.length wc,.map (some kb)] 77)=w0 at *;obtain⟨k0,k1,k2⟩:=K0.o.cs;obtain⟨rb,ro,rfl,hcl⟩:=S0.o.cas.win;have c0:=hcl e heb;have hsz:=B0.o.size;obtain⟨m,hm,hf⟩:=S0.o.all e heb;have hlk:=hm.look qO Tryz.underlying127 (JR w0) (zo hs);have hfx:=hf s;cases hfp:F e s with
 |none=>
  rw[hfp]at hfx;have yD:m (.string s)=none:=hfx;rw[yD]at hlk;have al7:(Instr.lookup 127 (.map (some bs[e])) (.string s) true).run prog w0=.ok (.tuple #[.agg #[.string ⟨#[]⟩,.slice none 0 0,.bool false,.int .i64 0,.int .i64 0,.int .i64 0],.bool false]) w0:=hlk;have HVN:Hid (kJ F e s=none):=by show _=_;unfold kJ;rw[hfp];rfl
  clear hf hfx yD hm hcl hlk hfp;have B1:Hid (Below w0.heap.size w0 (w0.alloc (.cells #[.string ⟨#[]⟩,.slice none 0 0,.bool false,.int .i64 0,.int .i64 0,.int .i64 0] 184))):=Ax.alloc nl _;go_upto_region 2 with fail
  generalize w0.alloc (.cells #[.string ⟨#[]⟩,.slice none 0 0,.bool false,.int .i64 0,.int .i64 0,.int .i64 0] 184)=w1 at *;have K1:Hid (K3 w1 w.heap.size (.slice a p.length cap) (.slice (some ⟨rb,ro,none⟩) bs.length wc) (.map (some kb))):=K0.o.below B1.o;have S1:=hid (S0.o.below B1.o);have B2:=hid (B0.o.trans (B1.o.mono hsz));clear k0 k1 k2 c0 al7;obtain⟨k0,k1,k2⟩:=K1.o.cs;go_wp2_with fail;refine(nZ B p a cap _ wc bs kb F lp e s w1 S1.o he HQ.o).mono ?_;rintro ex w2 ⟨⟨t,rfl,hdn⟩,hk2,ht2⟩;have wH:=hid (ahU HVN.o hdn);have HK2:=hid hk2;have HT:Hid (Turn kb w w2):=(Turn.of_below B2.o).trans ht2;clear hk2 ht2 hdn;go_wp2_with fail;go_ret;exact⟨⟨_,rfl,wH.o⟩,HK2.o,HT.o⟩
 |some x=>
  rw[hfp]at hfx;obtain⟨epr,va,vc,yD,hxs⟩:=hfx;rw[yD]at hlk;unfold wnV at hlk;simp only[Option.getD_some,Option.isSome_some]at hlk;have HVO:=hid (HFx.o e s x hfp);have HVS:Hid (kJ F e s=some x.val):=by show _=_;unfold kJ;rw[hfp];rfl
  have HNB:Hid (yO (kJ F) e s=lW x.val):=yR hfp;have HXS:=hid hxs;clear hf yD hm hcl epr hxs hfp;have B1:Hid (Below w0.heap.size w0 (w0.alloc (.cells #[.string x.pr,.slice va x.val.length vc,.bool x.imp,.int .i64 (x.wt.1:Int),.int .i64 (x.wt.2.1:Int),.int .i64 (x.wt.2.2:Int)] 184))):=Ax.alloc nl _;have Y1:Hid (Wn (w0.alloc (.cells #[.string x.pr,.slice va x.val.length vc,.bool x.imp,.int .i64 (x.wt.1:Int),.int .i64 (x.wt.2.1:Int),.int .i64 (x.wt.2.2:Int)] 184)) w0.heap.size x (.slice va x.val.length vc)):=Wn.new _ _ _;go_upto_region 2 with fail
  generalize w0.alloc (.cells #[.string x.pr,.slice va x.val.length vc,.bool x.imp,.int .i64 (x.wt.1:Int),.int .i64 (x.wt.2.1:Int),.int .i64 (x.wt.2.2:Int)] 184)=w1 at *;obtain⟨nb,Gi⟩:=Nm w0.heap.size;have hnb:=Gi.o;rw[Gi.o]at Y1;rw[Gi.o];have I1:Hid (FdR B w p a cap (some ⟨rb,ro,none⟩) wc bs kb F lp x va vc nb w1):=⟨K0.o.below B1.o,Y1.o,S0.o.below B1.o,Sl.below HXS.o B1.o S0.o.cas.pg.lt,Turn.of_below (B0.o.trans (B1.o.mono hsz))⟩;clear k0 k1 k2 c0 hlk K0 Y1 S0 HXS B1;obtain⟨k0,k1,k2⟩:=I1.o.k.cs;obtain⟨n0,n1,n2,n3,n4,n5⟩:=I1.o.n.cs;have HA1:=hid (JX B x.val _ lN w1 I1.o.v);obtain⟨b1,Hb1⟩:=Nm (wdL x.val lN);rw[Hb1.o]at HA1;go_wp2_with fail;refine HA1.o.mono ?_;rintro ex w2 ⟨rfl,hb⟩;have I2:=hid (I1.o.next hb);clear hb k0 k1 k2 n0 n1 n2 n3 n4 n5 HA1 I1;cases b1
  .skip;obtain⟨k0,k1,k2⟩:=I2.o.k.cs;obtain⟨n0,n1,n2,n3,n4,n5⟩:=I2.o.n.cs;have HA2:=hid (afd x.val B _ w2 I2.o.v I2.o.s.cas.pg.lt);obtain⟨b2,Hb2⟩:=Nm (jg zB x.val);rw[Hb2.o]at HA2;go_wp2_with fail;refine HA2.o.mono ?_;rintro ex w3 ⟨rfl,hb⟩;have I3:=hid (I2.o.next hb);clear hb k0 k1 k2 n0 n1 n2 n3 n4 n5 HA2 I2;cases b2
   .have HUB:Hid ((Sp.isWord x.val Sp.lN||jg zB x.val)=false):=by
     show _=_;rw[Hb2.o,<-N7,show wdL x.val Sp.lN=false from Hb1.o];rfl
    obtain⟨k0,k1,k2⟩:=I3.o.k.cs;obtain⟨n0,n1,n2,n3,n4,n5⟩:=I3.o.n.cs;have HA3:=hid (JX B x.val _ jU w3 I3.o.v);obtain⟨b3,Hb3⟩:=Nm (wdL x.val jU);rw[Hb3.o]at HA3;go_wp2_with fail;refine HA3.o.mono ?_;rintro ex w4 ⟨rfl,hb⟩;have I4:=hid (I3.o.next hb);clear hb k0 k1 k2 n0 n1 n2 n3 n4 n5 HA3 I3;cases b3
    .have HIH:Hid (Sp.isWord x.val Sp.jU=false):=by show _=_;rw[<-N7];exact Hb3.o
     obtain⟨k0,k1,k2⟩:=I4.o.k.cs;obtain⟨n0,n1,n2,n3,n4,n5⟩:=I4.o.n.cs;have HA4:=hid (JX B x.val _ nInitial w4 I4.o.v);obtain⟨b4,Hb4⟩:=Nm (wdL x.val nInitial);rw[Hb4.o]at HA4;go_wp2_with fail;refine HA4.o.mono ?_;rintro ex w5 ⟨rfl,hb⟩;have I5:=hid (I4.o.next hb);clear hb k0 k1 k2 n0 n1 n2 n3 n4 n5 HA4 I4;cases b4
     .have HIN:Hid (Sp.isWord x.val Sp.nInitial=false):=by show _=_;rw[<-N7];exact Hb4.o
      obtain⟨k0,k1,k2⟩:=I5.o.k.cs;obtain⟨n0,n1,n2,n3,n4,n5⟩:=I5.o.n.cs;have HA5:=hid (afe x.val B _ w5 I5.o.v I5.o.s.cas.pg.lt);obtain⟨b5,Hb5⟩:=Nm (jg kD x.val);rw[Hb5.o]at HA5;go_wp2_with fail;refine HA5.o.mono ?_;rintro ex w6 ⟨rfl,hb⟩;have I6:=hid (I5.o.next hb);clear hb k0 k1 k2 n0 n1 n2 n3 n4 n5 HA5 I5;cases b5
      .have wH:=hid (afn (p:=p) (lp:=lp) HVS.o HUB.o HIH.o HIN.o Hb5.o);obtain⟨k0,k1,k2⟩:=I6.o.k.cs;obtain⟨n0,n1,n2,n3,n4,n5⟩:=I6.o.n.cs;have HVL:=hid (uq x.val B _ w6 I6.o.v I6.o.s.cas.pg.lt (by have:=HVO.o.wz;omega));go_wp2_with fail;refine HVL.o.mono ?_;rintro ex w7 ⟨rfl,hb⟩;have I7:=hid (I6.o.next hb);clear hb;go_wp2_with fail;go_ret;exact⟨⟨_,rfl,wH.o⟩,I7.o.s.DU,I7.o.b⟩
      .skip;obtain⟨k0,k1,k2⟩:=I6.o.k.cs;obtain⟨n0,n1,n2,n3,n4,n5⟩:=I6.o.n.cs;have HNI:=hid (Md B p a cap _ wc bs kb F lp e s w6 I6.o.s hs he U hUl HU.o (fun q x' hx'=>(HFx.o e q x' hx').wz) HLP.o);obtain⟨b6,Hb6⟩:=Nm ((custom s&&lp e s));rw[Hb6.o]at HNI;go_wp2_with fail;refine HNI.o.mono ?_;rintro ex w7 ⟨rfl,hb⟩;have I7:=hid (I6.o.next hb);clear hb k0 k1 k2 n0 n1 n2 n3 n4 n5 HNI I6;cases b6
       .have HSU:=hid (ahS B p a cap _ wc bs kb F lp e am9.o 9 x.val HVO.o.dp HVO.o.g HVO.o.mu (fun nm hnm=>HNM.o Hb6.o nm (by rw[HNB.o];exact hnm)) _ w7 I7.o.v I7.o.s);obtain⟨k0,k1,k2⟩:=I7.o.k.cs;obtain⟨n0,n1,n2,n3,n4,n5⟩:=I7.o.n.cs;go_wp2_with fail;refine HSU.o.mono ?_;rintro ex w8 ⟨⟨r,hex,rfl⟩,hk8,ht8⟩;have I8:=hid (I7.o.turn hkl oo ht8 hk8);have HEX:=hid hex;clear hk8 ht8 hex k0 k1 k2 n0 n1 n2 n3 n4 n5 HSU I7;obtain⟨tx,Gv⟩:=Nm (XY r);rw[Gv.o];cases r with
        |none=>obtain⟨k0,k1,k2⟩:=I8.o.k.cs;obtain⟨n0,n1,n2,n3,n4,n5⟩:=I8.o.n.cs;go_wp2_with fail;refine(nZ B p a cap _ wc bs kb F lp e s w8 I8.o.s he HQ.o).mono ?_;rintro ex wz ⟨⟨t,rfl,hdn⟩,hkz,htz⟩;have wH:=hid (ZG HVS.o HUB.o HIH.o HIN.o Hb5.o Hb6.o HEX.o (Or.inl rfl) hdn);have HKz:=hid hkz;have HT:=hid (I8.o.b.trans htz);clear hkz htz hdn;go_wp2_with fail;go_ret;exact⟨⟨_,rfl,wH.o⟩,HKz.o,HT.o⟩
        |some y=>
         by_cases hlt:400<tx.size
         .have ana:(400:Int)<(tx.size:Int):=oo;have HL4:Hid (400<(XY (some y)).size):=by rw[Gv.o];exact hlt
          obtain⟨k0,k1,k2⟩:=I8.o.k.cs;obtain⟨n0,n1,n2,n3,n4,n5⟩:=I8.o.n.cs;go_wp2_with fail;refine(nZ B p a cap _ wc bs kb F lp e s w8 I8.o.s he HQ.o).mono ?_;rintro ex wz ⟨⟨t,rfl,hdn⟩,hkz,htz⟩;have wH:=hid (ZG HVS.o HUB.o HIH.o HIN.o Hb5.o Hb6.o HEX.o (Or.inr HL4.o) hdn);have HKz:=hid hkz;have HT:=hid (I8.o.b.trans htz);clear hkz htz hdn;go_wp2_with fail;go_ret;exact⟨⟨_,rfl,wH.o⟩,HKz.o,HT.o⟩
         .have ana:(tx.size:Int)<=400:=oo;have wH:Hid (Cv p (kJ F) lp e s tx):=by
           rw[<-Gv.o];exact akv HVS.o HUB.o HIH.o HIN.o Hb5.o Hb6.o HEX.o (by show ¬400<(XY (some y)).size;rw[Gv.o];exact hlt)
          go_wp2_with fail;go_ret;exact⟨⟨_,rfl,wH.o⟩,I8.o.s.DU,I8.o.b⟩
       .have wH:=hid (ahV (p:=p) HVS.o HUB.o HIH.o HIN.o Hb5.o Hb6.o);go_wp2_with fail;go_ret;exact⟨⟨aA,rfl,wH.o⟩,I7.o.s.DU,I7.o.b⟩
     .have HIN:Hid (Sp.isWord x.val Sp.nInitial=true):=by show _=_;rw[<-N7];exact Hb4.o
      have wH:=hid (X9 (p:=p) (lp:=lp) HVS.o HUB.o HIH.o HIN.o);go_wp2_with fail;go_ret;exact⟨⟨aA,rfl,wH.o⟩,I5.o.s.DU,I5.o.b⟩
    .have HIH:Hid (Sp.isWord x.val Sp.jU=true):=by show _=_;rw[<-N7];exact Hb3.o
     go_wp2_with fail;refine wp_region_any Ao ?_;change wpAny _ _ _ _ _ _ _ (World.drew _);have J4:=hid (I4.o.drew);have sS:Hid ((fun wx:WD=>K3 wx w.heap.size (.slice a p.length cap) (.slice (some ⟨rb,ro,none⟩) bs.length wc) (.map (some kb))) w4.drew):=J4.o.k;refine wpAny_of_held (S:=(fun wx:WD=>K3 wx w.heap.size (.slice a p.length cap) (.slice (some ⟨rb,ro,none⟩) bs.length wc) (.map (some kb)))) _ _ _ _ ?_;refine Qp 0 rfl sS.o (by intro w hSw;obtain⟨k0,k1,k2⟩:=K3.cs hSw;exact gs) ?_;refine Qp 1 rfl sS.o (by intro w hSw;obtain⟨k0,k1,k2⟩:=K3.cs hSw;exact gs) ?_;refine Qp 2 rfl sS.o (by intro w hSw;obtain⟨k0,k1,k2⟩:=K3.cs hSw;exact gs) ?_;refine Qp 3 rfl sS.o (by intro w hSw;obtain⟨k0,k1,k2⟩:=K3.cs hSw;exact gs) ?_
     refine Qp 5 rfl sS.o (by intro w hSw;obtain⟨k0,k1,k2⟩:=K3.cs hSw;exact gs) ?_;refine iW 4 fun K hK=>?_;go_simp;refine(TS B p a cap e w4.drew J4.o.s.cas.pg he).mono ?_;rintro ex w5 ⟨rfl,hb5⟩;have I5:=hid (J4.o.next hb5);clear hb5;refine hK.o _ _ I5.o.k (fun _=>?_);clear hK K;refine iW 6 fun K hK=>?_;go_simp;refine(HQ.o w5 I5.o.s).mono ?_;rintro ex w6 ⟨⟨t,rfl,hcv⟩,hk6,ht6⟩;have wH:=hid (X8 (p:=p) (lp:=lp) HVS.o HUB.o HIH.o (aiG hcv));have WV:=hid hk6;have HT:=hid (I5.o.b.trans ht6);have HS6:Hid ((fun wx:WD=>K3 wx w.heap.size (.slice a p.length cap) (.slice (some ⟨rb,ro,none⟩) bs.length wc) (.map (some kb))) w6):=(show _=_ from(ht6.block w.heap.size (K3.lt I5.o.k) oo).trans I5.o.k);clear hk6 ht6 hcv;refine hK.o _ _ HS6.o (fun _=>?_);clear hK K
     refine Qp 7 rfl HS6.o (fun _ _=>gs) ?_;refine wpAnyH_done Ao ?_ _;go_wp2_with fail;go_ret;exact⟨⟨_,rfl,wH.o⟩,WV.o,HT.o⟩
   .have HUB:Hid ((Sp.isWord x.val Sp.lN||jg zB x.val)=true):=by
     show _=_;rw[Hb2.o];simp
    obtain⟨k0,k1,k2⟩:=I3.o.k.cs;obtain⟨n0,n1,n2,n3,n4,n5⟩:=I3.o.n.cs;go_wp2_with fail;refine(nZ B p a cap _ wc bs kb F lp e s w3 I3.o.s he HQ.o).mono ?_;rintro ex wz ⟨⟨t,rfl,hdn⟩,hkz,htz⟩;have wH:=hid (UW HVS.o HUB.o hdn);have HKz:=hid hkz;have HT:=hid (I3.o.b.trans htz);clear hkz htz hdn;go_wp2_with fail;go_ret;exact⟨⟨_,rfl,wH.o⟩,HKz.o,HT.o⟩
  .have HUB:Hid ((Sp.isWord x.val Sp.lN||jg zB x.val)=true):=by
    show _=_;rw[<-N7,show wdL x.val Sp.lN=true from Hb1.o];rfl
   obtain⟨k0,k1,k2⟩:=I2.o.k.cs;obtain⟨n0,n1,n2,n3,n4,n5⟩:=I2.o.n.cs;go_wp2_with fail;refine(nZ B p a cap _ wc bs kb F lp e s w2 I2.o.s he HQ.o).mono ?_;rintro ex wz ⟨⟨t,rfl,hdn⟩,hkz,htz⟩;have wH:=hid (UW HVS.o HUB.o hdn);have HKz:=hid hkz;have HT:=hid (I2.o.b.trans htz);clear hkz htz hdn;go_wp2_with fail;go_ret;exact⟨⟨_,rfl,wH.o⟩,HKz.o,HT.o⟩
end
