import Derived.Test.YtlliliddljkbfaaGreatC24
set_option maxHeartbeats 64000000
set_option maxRecDepth 100000
namespace Go.Proofs.YtlliliddljkbfaaGreat
open Go.Proofs.Tryz (prog)
open Go.RowKit Sp
structure XF where
 parent:Int
 tag:Int
 id:Int
 cls:Int
 attr:Int
def Ql(x:Int):Prop:=-9223372036854775808<=x/\x<=9223372036854775807
def XG(B:Nat)(w:WD)(a:Option Addr)(n:Nat)(f:Nat->XF):Prop:=
 n<=9223372036854775807/\∀i,i<n->i<29->∃g o,a=some ⟨g,o,none⟩/\g<B /\
  (w.cell? ⟨g,o+i*5,none⟩=some (.int .i64 (f i).parent)/\w.cell? ⟨g,o+i*5+1,none⟩=some (.int .i64 (f i).tag)/\w.cell? ⟨g,o+i*5+2,none⟩=some (.int .i64 (f i).id)/\w.cell? ⟨g,o+i*5+3,none⟩=some (.int .i64 (f i).cls)/\w.cell? ⟨g,o+i*5+4,none⟩=some (.int .i64 (f i).attr)) /\
  Ql (f i).parent/\Ql (f i).tag/\Ql (f i).id/\Ql (f i).cls/\Ql (f i).attr
theorem XG.below{B B':Nat}{w w':WD}{a:Option Addr}{n:Nat}{f:Nat->XF}(h:XG B w a n f)(hb:Below B' w w')(hB:B<=B'):XG B w' a n f:=by refine⟨h.1,fun i hi h29=>?_⟩;obtain⟨g,o,h1,h2,⟨c0,c1,c2,c3,c4⟩,h4⟩:=h.2 i hi h29;have e:∀k,w'.cell? ⟨g,k,none⟩=w.cell? ⟨g,k,none⟩:=fun k=>World.cell?_of_block (w:=w) (hb.block g oo);exact⟨g,o,h1,h2,⟨(e _).trans c0,(e _).trans c1,(e _).trans c2,(e _).trans c3,(e _).trans c4⟩,h4⟩
def E5(w:WD)(b:Nat)(x0 x1 x2 x3 x4:Av):Prop:=w.heap[b]?=some (.cells #[x0,x1,x2,x3,x4] 35 (0,0))
def Gj:Nat->BY
 |0=>⟨#[112]⟩
 |1=>⟨#[100,105,118]⟩
 |2=>⟨#[98]⟩
 |_=>⟨#[97]⟩
theorem E5.cs{w:WD}{b:Nat}{x0 x1 x2 x3 x4:Av}(h:E5 w b x0 x1 x2 x3 x4):w.cell? ⟨b,0,none⟩=some x0/\w.cell? ⟨b,1,none⟩=some x1/\w.cell? ⟨b,2,none⟩=some x2/\w.cell? ⟨b,3,none⟩=some x3/\w.cell? ⟨b,4,none⟩=some x4:=⟨(cells_at h 0).trans rfl,(cells_at h 1).trans rfl,(cells_at h 2).trans rfl,(cells_at h 3).trans rfl,(cells_at h 4).trans rfl⟩
theorem E5.fz{w:WD}{b:Nat}{x0 x1 x2 x3 x4:Av}(h:E5 w b x0 x1 x2 x3 x4)(k:Nat):w.frozen? ⟨b,k,none⟩=false:=by have h':w.heap[b]?=_:=h;unfold World.frozen?;rw[h'];simp
theorem E5.set{w w':WD}{b:Nat}{x0 x1 x2 x3 x4 y0 y1 y2 y3 y4:Av}(h:E5 w b x0 x1 x2 x3 x4)(e:((((w.setCell ⟨b,0,none⟩ y0).setCell ⟨b,1,none⟩ y1).setCell ⟨b,2,none⟩ y2).setCell ⟨b,3,none⟩ y3).setCell ⟨b,4,none⟩ y4=w'):
  E5 w' b y0 y1 y2 y3 y4/\(∀q,q≠b->w'.heap[q]?=w.heap[q]?)/\Below b w w':=by
 subst e;have h1:=bQ w b 0 _ _ _ y0 h;have h2:=bQ _ b 1 _ _ _ y1 h1;have h3:=bQ _ b 2 _ _ _ y2 h2;have h4:=bQ _ b 3 _ _ _ y3 h3;have h5:=bQ _ b 4 _ _ _ y4 h4;refine⟨h5,fun q hq=>?_,?_⟩
 .rw[Below.heap_setCell _ _ _ _ hq,Below.heap_setCell _ _ _ _ hq,Below.heap_setCell _ _ _ _ hq,Below.heap_setCell _ _ _ _ hq,Below.heap_setCell _ _ _ _ hq]
 .have hlt:b<=b:=Nat.le_refl _;exact(((((Below.refl b w).setCell (p:=⟨b,0,none⟩) hlt _).setCell (p:=⟨b,1,none⟩) hlt _).setCell (p:=⟨b,2,none⟩) hlt _).setCell (p:=⟨b,3,none⟩) hlt _).setCell (p:=⟨b,4,none⟩) hlt _
theorem E5.set1{w w':WD}{b:Nat}{x0 x1 x2 x3 x4:Av}(h:E5 w b x0 x1 x2 x3 x4)(k:Nat)(u:Av)(e:w.setCell ⟨b,k,none⟩ u=w'):w'.heap[b]?=some (.cells ((#[x0,x1,x2,x3,x4]:Array Av).setIfInBounds k u) 35 (0,0))/\(∀q,q≠b->w'.heap[q]?=w.heap[q]?)/\Below b w w':=by subst e;exact⟨bQ w b k _ _ _ u h,fun q hq=>Below.heap_setCell _ _ _ _ hq,(Below.refl b w).setCell (p:=⟨b,k,none⟩) nl _⟩
theorem E5.lt{w:WD}{b:Nat}{x0 x1 x2 x3 x4:Av}(h:E5 w b x0 x1 x2 x3 x4):b<w.heap.size:=(Ay h)
theorem E5.alloc{w:WD}{b:Nat}{x0 x1 x2 x3 x4:Av}(h:E5 w b x0 x1 x2 x3 x4)(ob:Obj):E5 (w.alloc ob) b x0 x1 x2 x3 x4:=by unfold E5;rw[Below.heap_alloc _ _ _ h.lt];exact h
def FrB(base b:Nat)(w:WD)(q:Nat):Prop:=base<=q/\q<w.heap.size/\q≠b
theorem ahh{w:WD}{n base b:Nat}{s:BY}(h:w.heap[n]?=some (.cells #[.string s] 9 (0,0)))(hb:base<=n)(hn:n≠b)(hs:s.size<=100):SG eX 1 (FrB base b w) w (.slice (some ⟨n,0,none⟩) 1 1) [s]:=
 ⟨_,_,rfl,⟨Nat.le_refl _,by simp⟩,fun _=>⟨n,0,rfl,⟨⟨hb,(Ay h),hn⟩,[.string s],⟨rfl,oo⟩,fun j u hu=>by rw[Nat.zero_add,cells_at h];simpa using hu⟩,trivial⟩⟩
theorem ahi{w:WD}{n base b:Nat}{s t:BY}(h:w.heap[n]?=some (.cells #[.string s,.string t] 96 (0,0)))(hb:base<=n)(hn:n≠b)(hs:s.size<=100)(ht:t.size<=100):SG qH 2 (FrB base b w) w (.slice (some ⟨n,0,none⟩) 1 1) [(s,t)]:=
 ⟨_,_,rfl,⟨Nat.le_refl _,by simp⟩,fun _=>⟨n,0,rfl,⟨⟨hb,(Ay h),hn⟩,[.string s,.string t],⟨rfl,Nat.le_trans hs oo,Nat.le_trans ht oo⟩,fun j u hu=>by rw[Nat.zero_add,cells_at h];simpa using hu⟩,trivial⟩⟩
theorem E5.put{w W:WD}{b base:Nat}{x0 x1 x2 x3 x4:Av}(h:E5 w b x0 x1 x2 x3 x4)(k:Nat)(u:Av)(R O:Obj)(hb:base<=b)(hB:base<=w.heap.size)(e:((w.setCell ⟨b,k,none⟩ u).alloc R).alloc O=W):
  W.heap[b]?=some (.cells ((#[x0,x1,x2,x3,x4]:Array Av).setIfInBounds k u) 35 (0,0))/\W.heap[w.heap.size+1]?=some O/\Below base w W/\(∀q,q<w.heap.size->q≠b->W.heap[q]?=w.heap[q]?)/\W.heap.size=w.heap.size+2:=by
 subst e;have hs:(w.setCell ⟨b,k,none⟩ u).heap.size=w.heap.size:=by simp[World.setCell]
 have hs2:((w.setCell ⟨b,k,none⟩ u).alloc R).heap.size=w.heap.size+1:=by simp[hs]
 have hlt:=h.lt;refine⟨?_,?_,?_,fun q hq hqb=>?_,by simp[hs]⟩
 .rw[Below.heap_alloc _ _ _ oo,Below.heap_alloc _ _ _ oo];exact bQ w b k _ _ _ u h
 .rw[<-hs2];exact heap_alloc_new _ _
 .exact(((Below.refl base w).setCell (p:=⟨b,k,none⟩) hb _).alloc oo _).alloc oo _
 .rw[Below.heap_alloc _ _ _ oo,Below.heap_alloc _ _ _ oo];exact Below.heap_setCell _ _ _ _ hqb
theorem E5.am0{w W:WD}{b base:Nat}{x0 x1 x2 x3 x4:Av}(h:E5 w b x0 x1 x2 x3 x4)(k:Nat)(u:Av)(R O:Obj)(hb:base<=b)(hB:base<=w.heap.size)(e:((w.alloc R).alloc O).setCell ⟨b,k,none⟩ u=W):
  W.heap[b]?=some (.cells ((#[x0,x1,x2,x3,x4]:Array Av).setIfInBounds k u) 35 (0,0))/\W.heap[w.heap.size+1]?=some O/\Below base w W/\(∀q,q<w.heap.size->q≠b->W.heap[q]?=w.heap[q]?)/\W.heap.size=w.heap.size+2:=by
 subst e;have hs2:(w.alloc R).heap.size=w.heap.size+1:=by simp
 have hlt:=h.lt;have hE:E5 ((w.alloc R).alloc O) b x0 x1 x2 x3 x4:=(h.alloc R).alloc O;refine⟨bQ _ b k _ _ _ u hE,?_,?_,fun q hq hqb=>?_,by simp[World.setCell]⟩
 .rw[Below.heap_setCell _ _ _ _ (show w.heap.size+1≠b by omega),<-hs2];exact heap_alloc_new _ _
 .exact(((Below.refl base w).alloc oo _).alloc oo _).setCell (p:=⟨b,k,none⟩) hb _
 .rw[Below.heap_setCell _ _ _ _ hqb,Below.heap_alloc _ _ _ oo,Below.heap_alloc _ _ _ oo]
theorem alP(w:WD)(x0 x1 x2 x3 x4:Av)(T:TypeId):∀j u,[x0,x1,x2,x3,x4][j]?=some u->(w.alloc (.cells #[x0,x1,x2,x3,x4] T)).cell? ((⟨w.heap.size,0,none⟩:Addr).add j)=some u:=by
 intro j u hu;have e:=heap_alloc_new w (.cells #[x0,x1,x2,x3,x4] T);have e2:(⟨w.heap.size,0,none⟩:Addr).add j=⟨w.heap.size,j,none⟩:=by rw[Addr.add_lit,Nat.zero_add]
 rw[e2,cells_at e];simpa using hu
theorem ahj:∃i,prog.info? 35=some i/\i.zero=some (.agg #[.int .i64 0,.string ⟨#[]⟩,.string ⟨#[]⟩,.slice none 0 0,.slice none 0 0])/\i.size=5/\i.bytes=88:=info_parts Ao
theorem JZ:∀(d:aI) (k:Nat) (x:Elem),gI k d=true->xC (k+d.length) x=true->gI k (d++[x])=true
 |[],k,x,_,h=>by simpa[gI]using h
 |y::r,k,x,h,hx=>by simp only[gI,Bool.and_eq_true]at h;rw[List.cons_append];simp only[gI,Bool.and_eq_true];exact⟨h.1,JZ r (k+1) x h.2 (by rw[List.length_cons]at hx;rw[show k+1+r.length=k+(r.length+1) by omega];exact hx)⟩
theorem ahk(k:Nat):nameP (Gj k)=true/\Gj k≠aA/\(Gj k).size<=100:=by unfold Gj;split<;>decide
theorem fU{w w':WD}{ad:Addr}{u:Av}(hb:Below w.heap.size w w')(h:w.cell? ad=some u):w'.cell? ad=some u:=(World.cell?_of_block (w:=w) (hb.block ad.block (World.block_lt_of_cell? w _ h))).trans h
theorem ND{w:WD}{b:Nat}(h:w.heap[b]?=some (.cells #[.string ⟨#[112]⟩,.string ⟨#[100,105,118]⟩,.string ⟨#[98]⟩,.string ⟨#[97]⟩] 9 (0,0)))(i:Nat)(hi:i<4):w.cell? ⟨b,i,none⟩=some (.string (Gj i)):=by rw[cells_at h];rcases(show i=0\/i=1\/i=2\/i=3 by omega)with rfl|rfl|rfl|rfl<;>rfl
def alQ:Elem:=⟨-1,⟨#[104,116,109,108]⟩,⟨#[]⟩,[],[]⟩
def pgI(d:aI):Prop:=gI 0 d=true/\d[0]?=some alQ
theorem ajY(n:Nat)(f:Nat->XF)(a:Option Addr)(cap:Nat)(B:Nat)(w:WD)(h:XG B w a n f)(hB:B<=w.heap.size):
  Calls prog 22 #[.slice a n cap] w fun e w'=>∃(u:Av) (d:aI),e=.returned u/\MG wO 5 35 w.heap.size w' u d/\iL d=true/\(d.length=min n 29+1/\d[0]?=some alQ)/\Below w.heap.size w w':=by
 have hl:=h.1;have HS:=hid h;clear h;obtain⟨iT,hiT⟩:=ahj;have HI:Hid (prog.info? 35=some iT/\iT.zero=some (.agg #[.int .i64 0,.string ⟨#[]⟩,.string ⟨#[]⟩,.slice none 0 0,.slice none 0 0])/\iT.size=5/\iT.bytes=88):=hiT;clear hiT;go_in;go_wp2_with fail;go_loopg[3,4] n (fun gg v3 v4 wr=>∃(u:Av) (i:Nat) (d:aI),u=v3/\v4=.int .i64 (i:Int)/\i+gg=n/\i<=29/\d.length=i+1/\Aside (MG wO 5 35 w.heap.size wr u d/\pgI d/\Below w.heap.size w wr));case atStart=>refine⟨_,0,[⟨-1,⟨#[104,116,109,108]⟩,⟨#[]⟩,[],[]⟩],rfl,rfl,oo,oo,rfl,⟨_,World.ownsRow_lit w _ 1 nl As rfl,?_⟩,⟨by decide,rfl⟩,Ax.alloc nl _⟩;exact⟨_,[],(List.append_nil _).symm,⟨_,_,rfl,SG.iE _ _ _ _ _ _,SG.iE _ _ _ _ _ _,by decide,by decide,by decide,by decide⟩,rfl⟩
 case round=>
  obtain⟨u,i,d,rfl,rfl,hi,anA,hdl,hA⟩:=hrel;have HC:=hid hA.o;clear hA;have hsr:=HC.o.2.2.size;by_cases hlt:i<n
  .have h1:(i:Int)<(n:Int):=oo;by_cases h29:i<29
   .have h2:(i:Int)<29:=oo;obtain⟨g,o,rfl,hgB,⟨c0,c1,c2,c3,c4⟩,k0,k1,k2,k3,k4⟩:=(HS.o.below HC.o.2.2 hB).2 i hlt h29;obtain⟨x,Hx⟩:=Nm (f i);rw[Hx.o]at c0 c1 c2 c3 c4 k0 k1 k2 k3 k4;obtain⟨ua,uc,hu⟩:=HC.o.1.form;subst hu;rw[hdl]at HC⊢;have lp:=jJ x.parent (n:=i+1) oo;have lt4:=jJ x.tag (n:=4) oo;have anB:(bK x.tag 4:Int)<4:=oo;go_upto_region 5 with fail
    go_cut [5] (fun s5 wx=>∃(b:Nat) (pr:Nat) (k:Nat),s5=.pointer (some ⟨b,0,none⟩)/\wr.heap.size<=b/\pr<i+1/\Aside (E5 wx b (.int .i64 (pr:Int)) (.string (Gj k)) (.string ⟨#[]⟩) (.slice none 0 0) (.slice none 0 0)/\Below wr.heap.size wr wx));case first=>
     refine wp_region_any Ao ?_;change wpAny _ _ _ _ _ _ _ (World.drew _);obtain⟨wz,hwz⟩:∃x,World.drew wr=x:=⟨_,rfl⟩;have hz:Below wr.heap.size wr wz:=by rw[<-hwz];exact Ax.drew
     have HZ:Hid (wz.cell? ⟨g,o+i*5,none⟩=some (.int .i64 x.parent)/\wz.cell? ⟨g,o+i*5+1,none⟩=some (.int .i64 x.tag)):=by rw[<-hwz];exact⟨c0,c1⟩
     have BZ:=hid hz;rw[hwz];clear hwz hz c0 c1 c2 c3 c4;refine wpAny_of_held (S:=fun wx=>wx.cell? ⟨g,o+i*5,none⟩=some (.int .i64 x.parent)/\wx.cell? ⟨g,o+i*5+1,none⟩=some (.int .i64 x.tag)) _ _ _ _ ?_;refine dH 0 rfl HZ.o (by intro w hSw;obtain⟨r0,r1⟩:=hSw;exact gs) ?_;refine dH 1 rfl HZ.o (by intro w hSw;obtain⟨r0,r1⟩:=hSw;exact gs) ?_;refine dH 2 rfl HZ.o (by intro w hSw;obtain⟨r0,r1⟩:=hSw;exact gs) ?_;refine dH 3 rfl HZ.o (by intro w hSw;obtain⟨r0,r1⟩:=hSw;exact gs) ?_;refine dH 4 rfl HZ.o (by intro w hSw;obtain⟨r0,r1⟩:=hSw;exact gs) ?_;refine dH 5 rfl HZ.o (by intro w hSw;obtain⟨r0,r1⟩:=hSw;exact gs) ?_
     refine dH 6 rfl HZ.o (by intro w hSw;obtain⟨r0,r1⟩:=hSw;exact gs) ?_;refine dH 9 rfl HZ.o (by intro w hSw;obtain⟨r0,r1⟩:=hSw;exact gs) ?_;refine dH 10 rfl HZ.o (by intro w hSw;obtain⟨r0,r1⟩:=hSw;exact gs) ?_;refine dH 11 rfl HZ.o (by intro w hSw;obtain⟨r0,r1⟩:=hSw;exact gs) ?_;refine dH 12 rfl HZ.o (by intro w hSw;obtain⟨r0,r1⟩:=hSw;exact gs) ?_;refine dH 13 rfl HZ.o (by intro w hSw;obtain⟨r0,r1⟩:=hSw;exact gs) ?_;refine tkT 7 rfl HZ.o 14 #[.int .i64 x.parent,.int .i64 ((i+1:Nat):Int)] (by intro w hSw;exact gs) (fun w _=>TI x.parent (i+1) w k0 ⟨oo,oo⟩) ?_
     refine tkT 14 rfl HZ.o 14 #[.int .i64 x.tag,.int .i64 ((4:Nat):Int)] (by intro w hSw;exact gs) (fun w _=>TI x.tag 4 w k1 ⟨oo,oo⟩) ?_;obtain⟨m,Hm⟩:=Nm wz.heap.size;have hgz:g<m:=by rw[<-Hm.o];exact World.block_lt_of_cell? wz _ HZ.o.1
     have hmz:wr.heap.size<=m:=by rw[<-Hm.o];exact BZ.o.size
     refine wpAnyH_ready (rs:=[8,18]) Ao Ab (AllReadyH.cons rfl (fun K hK=>?_) (AllReadyH.cons rfl (fun K hK=>?_) AllReadyH.nil))
     .go_simp;generalize hw1:World.alloc _ _=w1;obtain⟨q1,hq1⟩:=qy hw1;have hs1:w1.heap.size=m+1:=by rw[<-hw1];simp[Hm.o]
      rw[Hm.o]at q1;have Z1:Hid (w1.cell? ⟨g,o+i*5,none⟩=some (.int .i64 x.parent)/\w1.cell? ⟨g,o+i*5+1,none⟩=some (.int .i64 x.tag)):=⟨fU hq1 HZ.o.1,fU hq1 HZ.o.2⟩;have B1:=hid (AC BZ.o hq1);have T1:Hid (w1.cell? ⟨m,bK x.tag 4,none⟩=some (.string (Gj (bK x.tag 4)))):=ND q1 _ lt4;refine hK.o _ _ Z1.o (fun _=>?_);rw[Hm.o];clear hK K hw1 q1 hq1;refine dH 15 rfl Z1.o (fun _ _=>gs) ?_;refine wpAnyH_ready (rs:=[16,18]) Ao Ab (AllReadyH.cons rfl (fun K hK=>?_) (AllReadyH.cons rfl (fun K hK=>?_) AllReadyH.nil));focus
       have t1:=T1.o;go_simp;refine hK.o _ _ Z1.o (fun _=>?_);clear hK K t1;refine dH 17 rfl Z1.o (fun _ _=>gs) ?_;refine iW 18 fun K hK=>?_;go_simp;generalize hw:World.alloc _ _=w2;obtain⟨q,hq⟩:=qy hw;have hs2:w2.heap.size=m+1+1:=by rw[<-hw];simp[hs1]
       rw[hs1]at q;have Z2:Hid (w2.cell? ⟨g,o+i*5,none⟩=some (.int .i64 x.parent)/\w2.cell? ⟨g,o+i*5+1,none⟩=some (.int .i64 x.tag)):=⟨fU hq Z1.o.1,fU hq Z1.o.2⟩;have B2:=hid (AC B1.o hq);have EE:Hid (E5 w2 (m+1) (.int .i64 0) (.string ⟨#[]⟩) (.string ⟨#[]⟩) (.slice none 0 0) (.slice none 0 0)):=q;refine hK.o _ _ Z2.o (fun _=>?_);try rw[hs1]
       clear hK K hw q hq
      rotate_left;focus
       go_simp;generalize hw:World.alloc _ _=w2;obtain⟨q,hq⟩:=qy hw;have hs2:w2.heap.size=m+1+1:=by rw[<-hw];simp[hs1]
       rw[hs1]at q;have Z2:Hid (w2.cell? ⟨g,o+i*5,none⟩=some (.int .i64 x.parent)/\w2.cell? ⟨g,o+i*5+1,none⟩=some (.int .i64 x.tag)):=⟨fU hq Z1.o.1,fU hq Z1.o.2⟩;have B2:=hid (AC B1.o hq);have EE:Hid (E5 w2 (m+1) (.int .i64 0) (.string ⟨#[]⟩) (.string ⟨#[]⟩) (.slice none 0 0) (.slice none 0 0)):=q;have t2:=fU hq T1.o;refine hK.o _ _ Z2.o (fun _=>?_);try rw[hs1]
       clear hK K hw q hq;refine iW 16 fun K hK=>?_;go_simp;refine hK.o _ _ Z2.o (fun _=>?_);clear hK K t2;refine dH 17 rfl Z2.o (fun _ _=>gs) ?_
      rotate_left;all_goals
       obtain⟨e0,e1,e2,e3,e4⟩:=EE.o.cs;have f0:=EE.o.fz 0;have f1:=EE.o.fz 1;have f2:=EE.o.fz 2;have f3:=EE.o.fz 3;have f4:=EE.o.fz 4;refine iW 19 fun K hK=>?_;go_simp;generalize hw5:World.setCell _ _ _=w5;obtain⟨hE,ho,hb5⟩:=EE.o.set hw5;have B5:=hid (B2.o.trans (hb5.mono oo));have HE:=hid hE;have hgm:g≠m+1:=by have:=hgz;omega
       refine hK.o _ _ ⟨(World.cell?_of_block (w:=w2) (ho g hgm)).trans Z2.o.1,(World.cell?_of_block (w:=w2) (ho g hgm)).trans Z2.o.2⟩ (fun _=>?_);clear hK K hw5 e0 e1 e2 e3 e4 f0 f1 f2 f3 f4 hE ho hb5;refine wpAnyH_done Ao ?_ _;go_wp2_with fail;go_meet
       exact⟨m+1,bK x.parent (i+1),bK x.tag 4,rfl,oo,lp,HE.o,B5.o⟩
     .go_simp;generalize hw:World.alloc _ _=w1;obtain⟨q,hq⟩:=qy hw;have hs1:w1.heap.size=m+1:=by rw[<-hw];simp[Hm.o]
      rw[Hm.o]at q;have Z1:Hid (w1.cell? ⟨g,o+i*5,none⟩=some (.int .i64 x.parent)/\w1.cell? ⟨g,o+i*5+1,none⟩=some (.int .i64 x.tag)):=⟨fU hq HZ.o.1,fU hq HZ.o.2⟩;have B1:=hid (AC BZ.o hq);have EE:Hid (E5 w1 (m) (.int .i64 0) (.string ⟨#[]⟩) (.string ⟨#[]⟩) (.slice none 0 0) (.slice none 0 0)):=q;refine hK.o _ _ Z1.o (fun _=>?_);rw[Hm.o];clear hK K hw q hq;refine iW 8 fun K hK=>?_;go_simp;generalize hw:World.alloc _ _=w2;obtain⟨q,hq⟩:=qy hw;rw[hs1]at q;have Z2:Hid (w2.cell? ⟨g,o+i*5,none⟩=some (.int .i64 x.parent)/\w2.cell? ⟨g,o+i*5+1,none⟩=some (.int .i64 x.tag)):=⟨fU hq Z1.o.1,fU hq Z1.o.2⟩;have B2:=hid (AC B1.o hq);have T2:Hid (w2.cell? ⟨m+1,bK x.tag 4,none⟩=some (.string (Gj (bK x.tag 4)))):=ND q _ lt4
      have EE:Hid (E5 w2 m (.int .i64 0) (.string ⟨#[]⟩) (.string ⟨#[]⟩) (.slice none 0 0) (.slice none 0 0)):=by unfold E5;exact(hq.block m oo).trans EE.o
      refine hK.o _ _ Z2.o (fun _=>?_);try rw[hs1]
      clear hK K hw q hq;refine dH 15 rfl Z2.o (fun _ _=>gs) ?_;have t2:=T2.o;refine iW 16 fun K hK=>?_;go_simp;refine hK.o _ _ Z2.o (fun _=>?_);clear hK K t2;refine dH 17 rfl Z2.o (fun _ _=>gs) ?_;obtain⟨e0,e1,e2,e3,e4⟩:=EE.o.cs;have f0:=EE.o.fz 0;have f1:=EE.o.fz 1;have f2:=EE.o.fz 2;have f3:=EE.o.fz 3;have f4:=EE.o.fz 4;refine iW 19 fun K hK=>?_;go_simp;generalize hw5:World.setCell _ _ _=w5;obtain⟨hE,ho,hb5⟩:=EE.o.set hw5;have B5:=hid (B2.o.trans (hb5.mono oo));have HE:=hid hE;have hgm:g≠m:=by have:=hgz;omega
      refine hK.o _ _ ⟨(World.cell?_of_block (w:=w2) (ho g hgm)).trans Z2.o.1,(World.cell?_of_block (w:=w2) (ho g hgm)).trans Z2.o.2⟩ (fun _=>?_);clear hK K hw5 e0 e1 e2 e3 e4 f0 f1 f2 f3 f4 hE ho hb5;refine wpAnyH_done Ao ?_ _;go_wp2_with fail;go_meet
      exact⟨m,bK x.parent (i+1),bK x.tag 4,rfl,oo,lp,HE.o,B5.o⟩
    case rest=>
     obtain⟨b,pr,kt,rfl,hbr,hpr,hA⟩:=hcut;have HE:=hid hA.o;clear hA;have d2:=fU HE.o.2 c2;have d3:=fU HE.o.2 c3;have d4:=fU HE.o.2 c4;have HN:=hid (And.intro c2 (And.intro c3 c4));clear c0 c1 c2 c3 c4;obtain⟨ki,Hki⟩:=Nm (bK x.id 8);have hki:ki<8:=by rw[<-Hki.o];exact jJ _ oo
     have PI:Hid (∀w,Calls prog 14 #[.int .i64 x.id,.int .i64 8] w fun e w'=>e=.returned (.int .i64 (ki:Int))/\w'=w):=fun w=>by have:=TI x.id 8 w k2 ⟨oo,oo⟩;rw[Hki.o]at this;exact this
     go_wp2_with fail;refine pmb (PI.o _) fun wq hwq=>?_;rw[hwq];clear hwq;go_upto_if 44 with fail;go_cut [6] (fun s6 wy=>∃(id:BY),nameP id=true/\Aside (E5 wy b (.int .i64 (pr:Int)) (.string (Gj kt)) (.string id) (.slice none 0 0) (.slice none 0 0)/\Below wr.heap.size wr wy));case first=>
      by_cases h3:ki<3
      .have h3':(ki:Int)<3:=oo;have EA:=hid (HE.o.1.alloc (.cells #[.string ⟨#[97]⟩,.string ⟨#[98]⟩,.string ⟨#[98,111,120]⟩] 9));have BA:=hid (HE.o.2.alloc HE.o.2.size (.cells #[.string ⟨#[97]⟩,.string ⟨#[98]⟩,.string ⟨#[98,111,120]⟩] 9));obtain⟨e0,e1,e2,e3,e4⟩:=EA.o.cs;have f2:=EA.o.fz 2;rcases(show ki=0\/ki=1\/ki=2 by omega)with rfl|rfl|rfl;all_goals
        go_wp2_with fail;go_meet
        exact⟨_,by decide,(EA.o.set1 2 _ rfl).1,BA.o.setCell hbr _⟩
      .have h3':(3:Int)<=(ki:Int):=oo;go_wp2_with fail;go_meet
       exact⟨_,by decide,HE.o⟩
     case rest=>
      obtain⟨id,ahl,hA⟩:=hcut;have HE2:=hid hA.o;clear hA d2 d3 d4 HE;have d3:=fU HE2.o.2 HN.o.2.1;have d4:=fU HE2.o.2 HN.o.2.2;obtain⟨kc,Hkc⟩:=Nm (bK x.cls 8);have hkc:kc<8:=by rw[<-Hkc.o];exact jJ _ oo
      have PC:Hid (∀w,Calls prog 14 #[.int .i64 x.cls,.int .i64 8] w fun e w'=>e=.returned (.int .i64 (kc:Int))/\w'=w):=fun w=>by have:=TI x.cls 8 w k3 ⟨oo,oo⟩;rw[Hkc.o]at this;exact this
      go_wp2_with fail;refine pmb (PC.o _) fun wq hwq=>?_;rw[hwq];clear hwq;go_upto_if 57 with fail;go_cut [6] (fun s6 wy=>∃(cv:Av) (cl:List BY),(cl.all (fun c=>nameP c&&!decide (c=aA))=true/\cl.length<=1)/\Aside (E5 wy b (.int .i64 (pr:Int)) (.string (Gj kt)) (.string id) cv (.slice none 0 0)/\SG eX 1 (FrB wr.heap.size b wy) wy cv cl/\Below wr.heap.size wr wy));case first=>
       by_cases h5:kc<5
       .have h5':(kc:Int)<5:=oo;have hb2:=HE2.o.1.lt;have hz2:=HE2.o.2.size;rcases(show kc=0\/kc=1\/kc=2\/kc=3\/kc=4 by omega)with rfl|rfl|rfl|rfl|rfl;have EA:=hid ((HE2.o.1.alloc (.cells #[.string ⟨#[114]⟩,.string ⟨#[115,97,110,100,98,111,120]⟩,.string ⟨#[98,111,120]⟩,.string ⟨#[120]⟩,.string ⟨#[121]⟩] 9)).alloc (.cells #[.string ⟨#[114]⟩] 9));have BA:=hid ((HE2.o.2.alloc hz2 (.cells #[.string ⟨#[114]⟩,.string ⟨#[115,97,110,100,98,111,120]⟩,.string ⟨#[98,111,120]⟩,.string ⟨#[120]⟩,.string ⟨#[121]⟩] 9)).alloc An (.cells #[.string ⟨#[114]⟩] 9));have NA:=hid (heap_alloc_new (wc.alloc (.cells #[.string ⟨#[114]⟩,.string ⟨#[115,97,110,100,98,111,120]⟩,.string ⟨#[98,111,120]⟩,.string ⟨#[120]⟩,.string ⟨#[121]⟩] 9)) (.cells #[.string ⟨#[114]⟩] 9));rotate_left
        have EA:=hid ((HE2.o.1.alloc (.cells #[.string ⟨#[114]⟩,.string ⟨#[115,97,110,100,98,111,120]⟩,.string ⟨#[98,111,120]⟩,.string ⟨#[120]⟩,.string ⟨#[121]⟩] 9)).alloc (.cells #[.string ⟨#[115,97,110,100,98,111,120]⟩] 9));have BA:=hid ((HE2.o.2.alloc hz2 (.cells #[.string ⟨#[114]⟩,.string ⟨#[115,97,110,100,98,111,120]⟩,.string ⟨#[98,111,120]⟩,.string ⟨#[120]⟩,.string ⟨#[121]⟩] 9)).alloc An (.cells #[.string ⟨#[115,97,110,100,98,111,120]⟩] 9));have NA:=hid (heap_alloc_new (wc.alloc (.cells #[.string ⟨#[114]⟩,.string ⟨#[115,97,110,100,98,111,120]⟩,.string ⟨#[98,111,120]⟩,.string ⟨#[120]⟩,.string ⟨#[121]⟩] 9)) (.cells #[.string ⟨#[115,97,110,100,98,111,120]⟩] 9));rotate_left
        have EA:=hid ((HE2.o.1.alloc (.cells #[.string ⟨#[114]⟩,.string ⟨#[115,97,110,100,98,111,120]⟩,.string ⟨#[98,111,120]⟩,.string ⟨#[120]⟩,.string ⟨#[121]⟩] 9)).alloc (.cells #[.string ⟨#[98,111,120]⟩] 9));have BA:=hid ((HE2.o.2.alloc hz2 (.cells #[.string ⟨#[114]⟩,.string ⟨#[115,97,110,100,98,111,120]⟩,.string ⟨#[98,111,120]⟩,.string ⟨#[120]⟩,.string ⟨#[121]⟩] 9)).alloc An (.cells #[.string ⟨#[98,111,120]⟩] 9));have NA:=hid (heap_alloc_new (wc.alloc (.cells #[.string ⟨#[114]⟩,.string ⟨#[115,97,110,100,98,111,120]⟩,.string ⟨#[98,111,120]⟩,.string ⟨#[120]⟩,.string ⟨#[121]⟩] 9)) (.cells #[.string ⟨#[98,111,120]⟩] 9));rotate_left
        have EA:=hid ((HE2.o.1.alloc (.cells #[.string ⟨#[114]⟩,.string ⟨#[115,97,110,100,98,111,120]⟩,.string ⟨#[98,111,120]⟩,.string ⟨#[120]⟩,.string ⟨#[121]⟩] 9)).alloc (.cells #[.string ⟨#[120]⟩] 9));have BA:=hid ((HE2.o.2.alloc hz2 (.cells #[.string ⟨#[114]⟩,.string ⟨#[115,97,110,100,98,111,120]⟩,.string ⟨#[98,111,120]⟩,.string ⟨#[120]⟩,.string ⟨#[121]⟩] 9)).alloc An (.cells #[.string ⟨#[120]⟩] 9));have NA:=hid (heap_alloc_new (wc.alloc (.cells #[.string ⟨#[114]⟩,.string ⟨#[115,97,110,100,98,111,120]⟩,.string ⟨#[98,111,120]⟩,.string ⟨#[120]⟩,.string ⟨#[121]⟩] 9)) (.cells #[.string ⟨#[120]⟩] 9));rotate_left
        have EA:=hid ((HE2.o.1.alloc (.cells #[.string ⟨#[114]⟩,.string ⟨#[115,97,110,100,98,111,120]⟩,.string ⟨#[98,111,120]⟩,.string ⟨#[120]⟩,.string ⟨#[121]⟩] 9)).alloc (.cells #[.string ⟨#[121]⟩] 9));have BA:=hid ((HE2.o.2.alloc hz2 (.cells #[.string ⟨#[114]⟩,.string ⟨#[115,97,110,100,98,111,120]⟩,.string ⟨#[98,111,120]⟩,.string ⟨#[120]⟩,.string ⟨#[121]⟩] 9)).alloc An (.cells #[.string ⟨#[121]⟩] 9));have NA:=hid (heap_alloc_new (wc.alloc (.cells #[.string ⟨#[114]⟩,.string ⟨#[115,97,110,100,98,111,120]⟩,.string ⟨#[98,111,120]⟩,.string ⟨#[120]⟩,.string ⟨#[121]⟩] 9)) (.cells #[.string ⟨#[121]⟩] 9));rotate_left;all_goals
         obtain⟨e0,e1,e2,e3,e4⟩:=EA.o.cs;have f3:=EA.o.fz 3;go_wp2_with fail;go_meet
         obtain⟨p1,p2,p3,_,p5⟩:=HE2.o.1.put 3 _ _ _ hbr hz2 rfl;exact⟨_,[_],⟨by decide,by simp⟩,p1,ahh p2 oo oo Al,HE2.o.2.trans p3⟩
       .have h5':(5:Int)<=(kc:Int):=oo;go_wp2_with fail;go_meet
        exact⟨_,[],⟨rfl,by simp⟩,HE2.o.1,SG.iE _ _ _ _ _ _,HE2.o.2⟩
      case rest=>
       obtain⟨cv,cl,hcl,hA⟩:=hcut;have Pv:=hid hA.o;clear hA d3 d4 HE2;obtain⟨ca,cc,hcv⟩:=Pv.o.2.1.form;subst hcv;have d4:=fU Pv.o.2.2 HN.o.2.2;have hq1: -9223372036854775808<=Int.tdiv x.attr 3/\Int.tdiv x.attr 3<=9223372036854775807:=by
        have hk:=k4;unfold Ql at hk;rcases Int.le_total 0 x.attr with h0|h0
        .rw[Int.tdiv_eq_ediv_of_nonneg h0];omega
        .have e:Int.tdiv x.attr 3 = -(Int.tdiv (-x.attr) 3):=by rw[Int.neg_tdiv];simp
         rw[e,Int.tdiv_eq_ediv_of_nonneg oo];omega
       obtain⟨ka,Hka⟩:=Nm (bK (Int.tdiv x.attr 3) 4);have hka:ka<4:=by rw[<-Hka.o];exact jJ _ oo
       have PT:Hid (∀w,Calls prog 14 #[.int .i64 (Int.tdiv x.attr 3),.int .i64 4] w fun e w'=>e=.returned (.int .i64 (ka:Int))/\w'=w):=fun w=>by have:=TI (Int.tdiv x.attr 3) 4 w hq1 ⟨oo,oo⟩;rw[Hka.o]at this;exact this
       go_upto_if 70 with fail;go_cut [6] (fun s6 wy=>∃(av:Av) (al:List (BY×BY)),(al.all (fun a=>nameP a.1&&dK a.2&&!decide (a.1=aA))=true/\al.length<=1)/\Aside (E5 wy b (.int .i64 (pr:Int)) (.string (Gj kt)) (.string id) (.slice ca cl.length cc) av/\SG eX 1 (FrB wr.heap.size b wy) wy (.slice ca cl.length cc) cl/\SG qH 2 (FrB wr.heap.size b wy) wy av al/\Below wr.heap.size wr wy));case first=>
        by_cases hm:Int.tmod x.attr 3=0
        .have hmb:(Int.tmod x.attr 3==0)=true:=by simp[hm]
         have hz3:=Pv.o.2.2.size;have g4:(wc.alloc (.cells #[.string ⟨#[118]⟩,.string ⟨#[118,32,119]⟩,.string ⟨#[]⟩,.string ⟨#[119,118]⟩] 9)).cell? ⟨g,o+i*5+4,none⟩=some (.int .i64 x.attr):=fU (Ax.alloc nl _) d4;rcases(show ka=0\/ka=1\/ka=2\/ka=3 by omega)with rfl|rfl|rfl|rfl;have EA:=hid ((Pv.o.1.alloc (.cells #[.string ⟨#[118]⟩,.string ⟨#[118,32,119]⟩,.string ⟨#[]⟩,.string ⟨#[119,118]⟩] 9)).alloc (.cells #[.string ⟨#[107]⟩,.string ⟨#[118]⟩] 96));rotate_left;have EA:=hid ((Pv.o.1.alloc (.cells #[.string ⟨#[118]⟩,.string ⟨#[118,32,119]⟩,.string ⟨#[]⟩,.string ⟨#[119,118]⟩] 9)).alloc (.cells #[.string ⟨#[107]⟩,.string ⟨#[118,32,119]⟩] 96));rotate_left
         have EA:=hid ((Pv.o.1.alloc (.cells #[.string ⟨#[118]⟩,.string ⟨#[118,32,119]⟩,.string ⟨#[]⟩,.string ⟨#[119,118]⟩] 9)).alloc (.cells #[.string ⟨#[107]⟩,.string ⟨#[]⟩] 96));rotate_left;have EA:=hid ((Pv.o.1.alloc (.cells #[.string ⟨#[118]⟩,.string ⟨#[118,32,119]⟩,.string ⟨#[]⟩,.string ⟨#[119,118]⟩] 9)).alloc (.cells #[.string ⟨#[107]⟩,.string ⟨#[119,118]⟩] 96));rotate_left;all_goals
          obtain⟨e0,e1,e2,e3,e4⟩:=EA.o.cs;have f4:=EA.o.fz 4;go_wp2_with fail;refine pmb (PT.o _) fun wq hwq=>?_;rw[hwq];clear hwq;go_wp2_with fail;go_meet
          obtain⟨p1,p2,p3,p4,p5⟩:=Pv.o.1.am0 4 _ _ _ hbr hz3 rfl;exact⟨_,[(_,_)],⟨by decide,by simp⟩,p1,Pv.o.2.1.keep eX.fair (fun q hq=>⟨hq.1,by have:=hq.2.1;omega,hq.2.2⟩) (fun q hq=>p4 q hq.2.1 hq.2.2),ahi p2 oo (by have:=Pv.o.1.lt;omega) Al Al,Pv.o.2.2.trans p3⟩
        .have hmb:(Int.tmod x.attr 3==0)=false:=by simp[hm]
         go_wp2_with fail;go_meet
         exact⟨_,[],⟨rfl,by simp⟩,Pv.o.1,Pv.o.2.1,SG.iE _ _ _ _ _ _,Pv.o.2.2⟩
       case rest=>
        obtain⟨av,al,hal,hA⟩:=hcut;have HE4:=hid hA.o;clear hA d4 Pv HN;obtain⟨aa,ac,hav⟩:=HE4.o.2.2.1.form;subst hav;obtain⟨e0,e1,e2,e3,e4⟩:=HE4.o.1.cs;have hsc:=HE4.o.2.2.2.size;obtain⟨nc,Hnc⟩:=Nm cl.length;obtain⟨na,Hna⟩:=Nm al.length;obtain⟨tg,Htg⟩:=Nm (Gj kt);have HTG:=hid (ahk kt);rw[Htg.o]at HTG;rw[Hnc.o,Hna.o,Htg.o]at HE4;rw[Hnc.o]at e3;rw[Hna.o]at e4;rw[Htg.o]at e1
        have HX:Hid (wO (oD wr.heap.size wc) wc ⟨(pr:Int),tg,id,cl,al⟩ [.int .i64 (pr:Int),.string tg,.string id,.slice ca nc cc,.slice aa na ac]):=⟨_,_,rfl,HE4.o.2.1.keep eX.fair (fun q hq=>⟨hq.1,hq.2.1⟩) (fun _ _=>rfl),HE4.o.2.2.1.keep qH.fair (fun q hq=>⟨hq.1,hq.2.1⟩) (fun _ _=>rfl),by have:=HTG.o.2.2;show tg.size<=_;omega,by have:id.size<=12:=(by unfold nameP at ahl;simp at ahl;exact ahl.2);show id.size<=_;omega,by show _<=(pr:Int);omega,by show(pr:Int)<=_;omega⟩;have M4:=hid (HC.o.1.below wO.fair HE4.o.2.2.2);have PA:∀o,Hid (wO (DZ w.heap.size (wc.alloc o) (.slice ua (i+1) uc)) (wc.alloc o) ⟨(pr:Int),tg,id,cl,al⟩ [.int .i64 (pr:Int),.string tg,.string id,.slice ca nc cc,.slice aa na ac]):=fun o=>HC.o.1.apart wO.fair HX.o hsr Ab (fun g hg=>Below.heap_alloc _ _ _ hg)
        obtain⟨cs,hown,pX⟩:=M4.o.alloc wO.fair (.cells #[.int .i64 (pr:Int),.string tg,.string id,.slice ca nc cc,.slice aa na ac] 35);have HO:Hid ((wc.alloc (.cells #[.int .i64 (pr:Int),.string tg,.string id,.slice ca nc cc,.slice aa na ac] 35)).ownsRow w.heap.size 35 5 (.slice ua (i+1) uc) (i+1) cs):=by have h:=hown;rw[hdl]at h;exact h
        have Wx:=hid pX;clear hown pX;go_wp2_with(at_builtin;go_must(refine wpList_append_own_at _ rfl _ _ 22 rfl w.heap.size 35 iT (.agg #[.int .i64 0,.string ⟨#[]⟩,.string ⟨#[]⟩,.slice none 0 0,.slice none 0 0]) 5 88 Tryz.underlying22 HI.o.1 HI.o.2.1 HI.o.2.2.1 HI.o.2.2.2 rfl oo (.slice ua (i+1) uc) (i+1) cs rfl HO.o ⟨wc.heap.size,0,none⟩ 1 1 [.int .i64 (pr:Int),.string tg,.string id,.slice ca nc cc,.slice aa na ac] rfl rfl (alP _ _ _ _ _ _ _) (by simp[Value.oneCell']) As oo An ?_));intro v5 w5 hown5 hgr5 _ TV;have hlo:∀rr,(Value.slice ua (i+1) uc).ownBlock=some rr->w.heap.size<=rr:=fun rr hr=>(HO.o.lt rr hr).1;have hb5:Below w.heap.size wc w5:=(Ax.alloc oo _).grown hgr5 An hlo
        have yE:w5.ownsRow w.heap.size 35 5 v5 (d.length+1) (cs++[.int .i64 (pr:Int),.string tg,.string id,.slice ca nc cc,.slice aa na ac]):=by rw[hdl];exact hown5
        have M5:=hid (MG.snoc wO.fair Wx.o (PA _).o yE hgr5 (by simpa using TV));have X5:=hid (HC.o.2.2.trans ((HE4.o.2.2.2.mono hsr).trans hb5));have G5:Hid (pgI (d++[⟨(pr:Int),tg,id,cl,al⟩])):=⟨JZ d 0 _ HC.o.2.1.1 (by unfold xC;simp only[Bool.and_eq_true,Bool.not_eq_true',decide_eq_true_eq,decide_eq_false_iff_not];refine⟨⟨⟨⟨⟨⟨⟨HTG.o.1,HTG.o.2.1⟩,ahl⟩,by have:=hcl.2;show cl.length<=4;omega⟩,by have:=hal.2;show al.length<=4;omega⟩,?_⟩,hcl.1⟩,hal.1⟩;rw[if_neg oo];simp only[Bool.and_eq_true,decide_eq_true_eq];exact⟨oo,oo⟩),by rw[List.getElem?_append_left oo];exact HC.o.2.1.2⟩
        clear hown5 yE hgr5 TV hb5 hlo PA;go_wp2_with fail;go_roundg(gk-1);case measure=>omega
        case rel=>exact⟨v5,i+1,d++[⟨(pr:Int),tg,id,cl,al⟩],rfl,by congr 1,oo,oo,by simp[hdl],M5.o,G5.o,X5.o⟩
   .have h2:(29:Int)<=(i:Int):=oo;have HP:Hid (iL d=true):=by
     show _=_;unfold iL;simp only[Bool.and_eq_true,decide_eq_true_eq];exact⟨⟨oo,oo⟩,HC.o.2.1.1⟩
    go_wp2_with fail;go_ret;exact⟨_,_,rfl,HC.o.1,HP.o,⟨oo,HC.o.2.1.2⟩,HC.o.2.2⟩
  .have h1:(n:Int)<=(i:Int):=oo;have HP:Hid (iL d=true):=by
    show _=_;unfold iL;simp only[Bool.and_eq_true,decide_eq_true_eq];exact⟨⟨oo,oo⟩,HC.o.2.1.1⟩
   go_wp2_with fail;go_ret;exact⟨_,_,rfl,HC.o.1,HP.o,⟨oo,HC.o.2.1.2⟩,HC.o.2.2⟩
theorem ajZ(n:Nat)(f:Nat->XF)(a:Option Addr)(cap:Nat)(B:Nat)(w:WD)(h:XG B w a n f)(hB:B<=w.heap.size):
  Calls prog 22 #[.slice a n cap] w fun e w'=>∃(u:Av) (d:aI),e=.returned u/\SG wO 5 (oD w.heap.size w') w' u d/\iL d=true/\Below w.heap.size w w':=
 (ajY n f a cap B w h hB).mono fun e w' ⟨u,d,h1,h2,h3,h4,h5⟩=>⟨u,d,h1,h2.sl wO.fair wO.sized (by have:=h4.1;omega),h3,h5⟩
