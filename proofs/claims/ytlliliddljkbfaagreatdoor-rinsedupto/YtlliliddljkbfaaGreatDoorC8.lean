import Derived.Test.YtlliliddljkbfaaGreatDoorC3
import Derived.Test.YtlliliddljkbfaaGreatDoorC7
namespace Go.Proofs.YtlliliddljkbfaaGreatDoor
set_option maxHeartbeats 64000000
set_option maxRecDepth 100000
open Go.Proofs.Tryz (prog)
open Go.RowKit Sp
section
abbrev ug(α:Type):=(Nat->Prop)->World->α->List Value->Prop
def Fair{α:Type}(C:ug α):Prop:=∀(S S':Nat->Prop) (w w':World) (x:α) (cs:List Value),(∀g,S g->S' g)->(∀g,S g->w'.heap[g]?=w.heap[g]?)->C S w x cs->C S' w' x cs
def qG{α:Type}(C:ug α)(sz:Nat):Prop:=∀S w x cs,C S w x cs->cs.length=sz
section
variable {α:Type} (C:ug α) (sz:Nat)
def EG(S:Nat->Prop)(w:World)(x:α)(g o:Nat):Prop:=S g/\∃cs,C S w x cs/\∀j u,cs[j]?=some u->w.cell? ⟨g,o+j,none⟩=some u
def LG(S:Nat->Prop)(w:World):List α->Nat->Nat->Prop
 |[],_,_=>True
 |x::r,g,o=>EG C S w x g o/\LG S w r g (o+sz)
def SG(S:Nat->Prop)(w:World)(v:Value)(xs:List α):Prop:=∃(a:Option Addr) (cap:Nat),v=.slice a xs.length cap/\(xs.length<=cap/\xs.length<=2097152)/\(xs≠[]->∃g o,a=some ⟨g,o,none⟩/\LG C sz S w xs g o)
def jv(S:Nat->Prop)(w:World):List α->List Value->Prop
 |[],cs=>cs=[]
 |x::r,cs=>∃c rest,cs=c++rest/\C S w x c/\jv S w r rest
def MG(T:TypeId)(base:Nat)(w:World)(v:Value)(xs:List α):Prop:=∃cs,w.ownsRow base T sz v xs.length cs/\jv C (oO base w v) w xs cs
end
section
variable {α:Type} {C:ug α} {sz:Nat} {S S':Nat->Prop} {w w':World}
theorem EG.keep(hF:Fair C)(hS:∀g,S g->S' g)(hw:∀g,S g->w'.heap[g]?=w.heap[g]?){x:α}{g o:Nat}(h:EG C S w x g o):EG C S' w' x g o:=by obtain⟨h0,cs,h1,h2⟩:=h;exact⟨hS g h0,cs,hF _ _ _ _ _ _ hS hw h1,fun j u hu=>by rw[World.cell?_of_block (w:=w) (hw g h0)];exact h2 j u hu⟩
theorem LG.keep(hF:Fair C)(hS:∀g,S g->S' g)(hw:∀g,S g->w'.heap[g]?=w.heap[g]?):∀(l:List α) (g o:Nat),LG C sz S w l g o->LG C sz S' w' l g o
 |[],_,_,_=>by simp[LG]
 |_::r,g,o,h=>⟨h.1.keep hF hS hw,LG.keep hF hS hw r g (o+sz) h.2⟩
theorem SG.keep(hF:Fair C){v:Value}{xs:List α}(h:SG C sz S w v xs)(hS:∀g,S g->S' g)(hw:∀g,S g->w'.heap[g]?=w.heap[g]?):SG C sz S' w' v xs:=by obtain⟨a,cap,h1,hc,h2⟩:=h;refine⟨a,cap,h1,hc,fun hn=>?_⟩;obtain⟨g,o,h3,h4⟩:=h2 hn;exact⟨g,o,h3,h4.keep hF hS hw⟩
theorem SG.below(hF:Fair C){B B':Nat}{v:Value}{xs:List α}(h:SG C sz (fun b=>b<B) w v xs)(hb:Below B' w w')(hB:B<=B'):SG C sz (fun b=>b<B) w' v xs:=h.keep hF (fun _ hg=>hg) fun g hg=>hb.block g (Nat.lt_of_lt_of_le hg hB)
theorem SG.mono(hF:Fair C){B B':Nat}{v:Value}{xs:List α}(h:SG C sz (fun b=>b<B) w v xs)(hB:B<=B'):SG C sz (fun b=>b<B') w v xs:=h.keep hF (fun _ hg=>Nat.lt_of_lt_of_le hg hB) fun _ _=>rfl
theorem SG.iG(C:ug α)(sz:Nat)(S:Nat->Prop)(w:World)(a:Option Addr)(c:Nat):SG C sz S w (.slice a 0 c) []:=⟨a,c,rfl,⟨by simp,by simp⟩,fun h=>absurd rfl h⟩
theorem SG.len{v:Value}{xs:List α}(h:SG C sz S w v xs):xs.length<=2097152:=by obtain⟨_,_,_,hc,_⟩:=h;exact hc.2
theorem SG.form{v:Value}{xs:List α}(h:SG C sz S w v xs):∃a cap,v=.slice a xs.length cap:=by obtain⟨a,cap,h1,_⟩:=h;exact⟨a,cap,h1⟩
theorem SG.here{a:Option Addr}{n cap:Nat}{xs:List α}(h:SG C sz S w (.slice a n cap) xs)(hn:xs≠[]):∃g o,a=some ⟨g,o,none⟩/\LG C sz S w xs g o/\xs.length<=cap:=by obtain⟨a',cap',h1,⟨hc,h6⟩,h2⟩:=h;cases h1;obtain⟨g,o,rfl,h4⟩:=h2 hn;exact⟨g,o,rfl,h4,hc⟩
theorem LG.at:∀(l:List α) (g o i:Nat) (_:LG C sz S w l g o) (hi:i<l.length),EG C S w l[i] g (o+i*sz)
 |_::_,g,o,0,h,_=>by simpa using h.1
 |_::r,g,o,i+1,h,hi=>by have:=LG.at r g (o+sz) i h.2 (by simpa using hi);rw[show o+(i+1)*sz=o+sz+i*sz from by rw[Nat.add_mul];omega];simpa using this
theorem jv.keep(hF:Fair C)(hS:∀g,S g->S' g)(hw:∀g,S g->w'.heap[g]?=w.heap[g]?):∀(l:List α) (cs:List Value),jv C S w l cs->jv C S' w' l cs
 |[],_,h=>h
 |_::r,_,⟨c,rest,h1,h2,h3⟩=>⟨c,rest,h1,hF _ _ _ _ _ _ hS hw h2,jv.keep hF hS hw r rest h3⟩
theorem jv.snoc:∀(l:List α) (cs:List Value) (_:jv C S w l cs) (x:α) (c:List Value) (_:C S w x c),jv C S w (l++[x]) (cs++c)
 |[],cs,h,x,c,hc=>⟨c,[],by simp[show cs=[] from h],hc,rfl⟩
 |_::r,_,⟨c',rest,h1,h2,h3⟩,x,c,hc=>⟨c',rest++c,by simp[h1],h2,jv.snoc r rest h3 x c hc⟩
theorem jv.lies(hZ:qG C sz){g:Nat}(hg:S g):∀(l:List α) (cs:List Value) (o:Nat) (_:jv C S w l cs) (_:∀j u,cs[j]?=some u->w.cell? ⟨g,o+j,none⟩=some u),LG C sz S w l g o
 |[],_,_,_,_=>by simp[LG]
 |_::r,cs,o,⟨c,rest,h1,h2,h3⟩,hc=>by
  subst h1;have hl:=hZ _ _ _ _ h2;refine⟨⟨hg,c,h2,fun j u hu=>hc j u ?_⟩,jv.lies hZ hg r rest (o+sz) h3 fun j u hu=>?_⟩
  .have hj:j<c.length:=(List.getElem?_eq_some_iff.1 hu).1;rw[List.getElem?_append_left hj];exact hu
  .rw[show o+sz+j=o+(j+sz) from by omega];apply hc (j+sz) u
   rw[List.getElem?_append_right oo,hl];simpa using hu
theorem MG.nil(C:ug α)(sz:Nat)(T:TypeId)(base:Nat)(w:World):MG C sz T base w (.slice none 0 0) []:=⟨[],World.ownsRow_nil _ _ _ _,rfl⟩
theorem MG.sl(hF:Fair C)(hZ:qG C sz){T:TypeId}{base:Nat}{v:Value}{l:List α}(h:MG C sz T base w v l)(h6:l.length<=2097152):SG C sz (vV base w) w v l:=by
 obtain⟨cs,h1,h2⟩:=h;have h3:jv C (vV base w) w l cs:=h2.keep hF (fun g hg=>⟨hg.1,hg.2.1⟩) (fun _ _=>rfl);rcases h1.2 with⟨rfl,hn⟩|⟨g,cap,cur,rfl,hbg,hg,hnc,hrest⟩
 .have:l=[]:=List.eq_nil_of_length_eq_zero hn;subst this;exact SG.iG _ _ _ _ _ _
 .refine⟨_,cap,rfl,⟨hnc,h6⟩,fun _=>⟨g,0,rfl,jv.lies hZ ⟨hbg,(Array.getElem?_eq_some_iff.1 hg).1⟩ l cs 0 h3 fun j u hu=>?_⟩⟩;have:=h1.cells (g:=g) rfl j u hu;rw[Addr.add_lit,Nat.zero_add]at this;rw[Nat.zero_add];exact this
theorem MG.lt{T:TypeId}{base:Nat}{v:Value}{l:List α}(h:MG C sz T base w v l):∀k,v.ownBlock=some k->base<=k/\k<w.heap.size:=by obtain⟨cs,h1,_⟩:=h;exact h1.lt
theorem MG.keep(hF:Fair C){T:TypeId}{base:Nat}{v:Value}{l:List α}(h:MG C sz T base w v l)(hs:w.heap.size<=w'.heap.size)(hw:∀g,base<=g->g<w.heap.size->w'.heap[g]?=w.heap[g]?):MG C sz T base w' v l:=by
 obtain⟨cs,h1,h2⟩:=h;refine⟨cs,⟨h1.1,?_⟩,h2.keep hF (fun g hg=>⟨hg.1,by have:=hg.2.1;omega,hg.2.2⟩) (fun g hg=>hw g hg.1 hg.2.1)⟩;rcases h1.2 with hn|⟨g,cap,cur,rfl,hbg,hgg,rest⟩
 .exact .inl hn
 .exact .inr ⟨g,cap,cur,rfl,hbg,by rw[hw g hbg (Array.getElem?_eq_some_iff.1 hgg).1];exact hgg,rest⟩
theorem MG.below(hF:Fair C){T:TypeId}{base:Nat}{v:Value}{l:List α}(h:MG C sz T base w v l)(hb:Below w.heap.size w w'):MG C sz T base w' v l:=h.keep hF hb.size fun g _ hg=>hb.block g hg
theorem MG.alloc(hF:Fair C){T:TypeId}{base:Nat}{v:Value}{l:List α}(h:MG C sz T base w v l)(o:Obj):MG C sz T base (w.alloc o) v l:=h.keep hF (by simp) fun g _ hg=>Below.heap_alloc _ _ _ hg
theorem MG.form{T:TypeId}{base:Nat}{v:Value}{l:List α}(h:MG C sz T base w v l):∃a cap,v=.slice a l.length cap:=by
 obtain⟨cs,h1,_⟩:=h;rcases h1.2 with⟨rfl,hn⟩|⟨g,cap,cur,rfl,_⟩
 .exact⟨none,0,by rw[hn]⟩
 .exact⟨_,_,rfl⟩
theorem MG.snoc(hF:Fair C){T:TypeId}{base:Nat}{v v2:Value}{l:List α}{cs c:List Value}{x:α}(h2:jv C (oO base w v) w l cs)(hx:C (oO base w v) w x c)
  (hown:w'.ownsRow base T sz v2 (l.length+1) (cs++c)) (hg:w.grownBy w' v.ownBlock) (hat:v2.ownBlock=v.ownBlock\/v2.ownBlock=some w.heap.size):MG C sz T base w' v2 (l++[x]):=by
 have hS:∀g,oO base w v g->oO base w' v2 g:=by
  rintro g ⟨h3,h4,h5⟩;refine⟨h3,Nat.lt_of_lt_of_le h4 hg.size,?_⟩;rcases hat with e|e
  .rw[e];exact h5
  .rw[e];intro e2;cases e2;omega
 have hw:∀g,oO base w v g->w'.heap[g]?=w.heap[g]?:=fun g hgg=>hg.block g hgg.2.1 hgg.2.2;exact⟨_,by rw[List.length_append];exact hown,jv.snoc _ _ (h2.keep hF hS hw) x c (hF _ _ _ _ _ _ hS hw hx)⟩
theorem MG.apart{β:Type}{D:ug β}{T:TypeId}{base:Nat}{w3 W:World}{v:Value}{l:List α}{x:β}{c:List Value}(h:MG C sz T base w v l)(hF:Fair D)(hx:D (vV w.heap.size w3) w3 x c)(hbase:base<=w.heap.size)(hs:w3.heap.size<=W.heap.size)(hw:∀g,g<w3.heap.size->W.heap[g]?=w3.heap[g]?):D (oO base W v) W x c:=hF _ _ _ _ _ _ (fun g hg=>⟨by have:=hg.1;omega,by have:=hg.2;omega,fun e=>by have:=(h.lt g e.symm).2;have:=hg.1;omega⟩) (fun g hg=>hw g hg.2) hx
end
def One{α:Type}(C:ug α)(sz:Nat):ug (List α):=fun S w x cs=>∃v,cs=[v]/\SG C sz S w v x
theorem One.fair{α:Type}{C:ug α}{sz:Nat}(hF:Fair C):Fair (One C sz):=by rintro S S' w w' x cs hS hw ⟨v,h1,h2⟩;exact⟨v,h1,h2.keep hF hS hw⟩
theorem One.sized{α:Type}(C:ug α)(sz:Nat):qG (One C sz) 1:=by rintro S w x cs ⟨v,rfl,_⟩;rfl
end
section
attribute [local go_sem] dH dI bQ bT
def Q4(T:TypeId)(w:World)(b:Nat)(x0 x1 x2 x3:Value):Prop:=w.heap[b]?=some (.cells #[x0,x1,x2,x3] T (0,0))
section
variable {T:TypeId} {w w':World} {b:Nat} {x0 x1 x2 x3:Value}
theorem Q4.lt(h:Q4 T w b x0 x1 x2 x3):b<w.heap.size:=(Array.getElem?_eq_some_iff.1 h).1
theorem Q4.cs(h:Q4 T w b x0 x1 x2 x3):w.cell? ⟨b,0,none⟩=some x0/\w.cell? ⟨b,1,none⟩=some x1/\w.cell? ⟨b,2,none⟩=some x2/\w.cell? ⟨b,3,none⟩=some x3:=by have h':w.heap[b]?=_:=h;refine⟨?_,?_,?_,?_⟩<;>(unfold World.cell?;rw[h'];rfl)
theorem Q4.fz(h:Q4 T w b x0 x1 x2 x3)(o:Nat):w.frozen? ⟨b,o,none⟩=false:=by have h':w.heap[b]?=_:=h;unfold World.frozen?;rw[h'];simp
theorem Q4.below(h:Q4 T w b x0 x1 x2 x3)(hb:Below w.heap.size w w'):Q4 T w' b x0 x1 x2 x3:=by show _=_;rw[hb.block b h.lt];exact h
theorem Q4.alloc(h:Q4 T w b x0 x1 x2 x3)(o:Obj):Q4 T (w.alloc o) b x0 x1 x2 x3:=h.below ((Below.refl _ _).alloc nl _)
theorem Q4.new(T:TypeId)(w:World)(x0 x1 x2 x3:Value):Q4 T (w.alloc (.cells #[x0,x1,x2,x3] T)) w.heap.size x0 x1 x2 x3:=heap_alloc_new w _
end
theorem DV(zs:List ByteArray)(x:ByteArray):Lib.containsS zs x=zs.any (fun z=>decide (x=z)):=by
 rw[Bool.eq_iff_iff,Lib.containsS_iff,List.any_eq_true];constructor
 .intro h;exact⟨x,h,by simp⟩
 .rintro ⟨z,h1,h2⟩;rw[decide_eq_true_eq]at h2;rw[h2];exact h1
theorem stop2(n:Nd):mZ [⟨#[59]⟩,⟨#[123]⟩] n=(aW n||aQ n):=by
 unfold mZ aW aQ dY ay b1;rw[DV];cases decide (n.t.kind=15)
 .rfl
 .by_cases h1:n.t.word=⟨#[59]⟩<;>by_cases h2:n.t.word=⟨#[123]⟩<;>simp[h1,h2]
theorem stop1(n:Nd):mZ [⟨#[123]⟩] n=aQ n:=by
 unfold mZ aQ dY ay b1;rw[DV];cases decide (n.t.kind=15)
 .rfl
 .by_cases h2:n.t.word=⟨#[123]⟩<;>simp[h2]
theorem acK(n:Nd):mZ [⟨#[59]⟩] n=aW n:=by
 unfold mZ aW dY ay b1;rw[DV];cases decide (n.t.kind=15)
 .rfl
 .by_cases h2:n.t.word=⟨#[59]⟩<;>simp[h2]
theorem VJ.val{B:Nat}{w:World}{c:List Nd×Option Nd×List Nd}{v1 sv v2:Value}(h:VJ B w c v1 sv v2):∃(t:Tok) (ka:Option Addr) (ks:List Nd) (kc:Nat),sv=dM t (.slice ka ks.length kc)/\Sl (fun b=>b<B) w (.slice ka ks.length kc) ks/\(dw c.2.1).isSome=ay t (b1 123)/\∀b,dw c.2.1=some b->ks=b:=by
 have h3:=h.stop;cases hc:c.2.1 with
 |none=>rw[hc]at h3;exact⟨_,none,[],0,h3,Sl.nil _ _,rfl,fun b hb=>by cases hb⟩
 |some n=>
  rw[hc]at h3;obtain⟨kv,rfl,hk,_⟩:=h3;obtain⟨ka,kc,rfl⟩:=hk.form;refine⟨n.t,ka,n.kids,kc,rfl,hk,?_,fun b hb=>?_⟩
  .show(if aQ n=true then some n.kids else none).isSome=dY n (b1 123);show(if dY n (b1 123)=true then some n.kids else none).isSome=dY n (b1 123);cases dY n (b1 123)<;>rfl
  .unfold dw at hb;simp only at hb;split at hb
   .cases hb;rfl
   .cases hb
structure aaA(B:Nat)(w:World)(hd:List Nd)(bo:Option (List Nd))(hv bv:Value):Prop where
 head:Sl (fun b=>b<B) w hv hd
 body:∃bl,Sl (fun b=>b<B) w bv bl/\∀b,bo=some b->bl=b
theorem Ll(B:Nat)(n:Nd)(r:List Nd)(v:Value)(w:World)(h:Sl (fun b=>b<B) w v (n::r))(hB:B<=w.heap.size):
  Calls prog 205 #[v] w fun e w'=>∃hv bv v2,e=.returned (.tuple #[.agg #[.string n.t.word,hv,.bool (dw (bM (fun m=>aW m||aQ m) r).2.1).isSome,bv],v2]) /\
   aaA B w' (bM (fun m=>aW m||aQ m) r).1 (dw (bM (fun m=>aW m||aQ m) r).2.1) hv bv/\Sl (fun b=>b<B) w' v2 (bM (fun m=>aW m||aQ m) r).2.2/\Below w.heap.size w w':=by
 have Lm:Hid (mZ [⟨#[59]⟩,⟨#[123]⟩]=fun m=>aW m||aQ m):=funext stop2;obtain⟨c,Hc⟩:∃c,Hid (bM (fun m=>aW m||aQ m) r=c):=⟨_,hid rfl⟩;rw[Hc.o];obtain⟨g,o,nv,cap,rfl,hN,hcap⟩:=h.head;obtain⟨a',hr1,hS1⟩:=h.IC;have qQ:Hid (Sl (fun b=>b<B) w (.slice a' r.length (cap-1)) r):=hS1;have hgB:g<B:=hN.s;have Gy:Hid (∀wx,Below w.heap.size w wx->wx.cell? ⟨g,o+1,none⟩=some (.string n.t.word)):=fun wx hb=>by rw[hb.cell (p:=⟨g,_,none⟩) (show g<w.heap.size by omega)];exact hN.c1
 have Cc:=h.len;clear h hS1 hN;have R0:Hid (Q4 118 (w.alloc (.cells #[.string ⟨#[]⟩,.slice none 0 0,.bool false,.slice none 0 0] 118)) w.heap.size (.string ⟨#[]⟩) (.slice none 0 0) (.bool false) (.slice none 0 0)):=Q4.new _ _ _ _ _ _;have B0:Hid (Below w.heap.size w (w.alloc (.cells #[.string ⟨#[]⟩,.slice none 0 0,.bool false,.slice none 0 0] 118))):=(Below.refl _ _).alloc nl _;go_in;go_upto_region 1 with fail
 have hsz0:=B0.o.size;have hlt0:=R0.o.lt;generalize w.alloc (.cells #[.string ⟨#[]⟩,.slice none 0 0,.bool false,.slice none 0 0] 118)=w0 at *;obtain⟨rb,mF⟩:∃rb,Hid (w.heap.size=rb):=⟨_,hid rfl⟩;rw[mF.o]at B0 R0 hB hlt0 hsz0 Gy⊢;have S0:Hid (Sl (fun b=>b<B) w0 (.slice a' r.length (cap-1)) r):=qQ.o.below B0.o hB;clear qQ;have B1:Hid (Below w0.heap.size w0 (w0.alloc (.cells #[.string ⟨#[59]⟩,.string ⟨#[123]⟩] 9))):=(Below.refl _ _).alloc nl _;have II:Hid (∀j,j<2->(w0.alloc (.cells #[.string ⟨#[59]⟩,.string ⟨#[123]⟩] 9)).cell? ⟨w0.heap.size,0+j,none⟩=some (.string ([(⟨#[59]⟩:ByteArray),⟨#[123]⟩].getD j ByteArray.empty))):=by intro j hj;have hh:(w0.alloc (.cells #[.string ⟨#[59]⟩,.string ⟨#[123]⟩] 9)).heap[w0.heap.size]?=_:=heap_alloc_new w0 _;unfold World.cell?;rw[hh];rcases(show j=0\/j=1 by omega)with rfl|rfl<;>rfl
 go_wp2_with fail;have hs1:=B1.o.size;have hlt1:w0.heap.size<(w0.alloc (.cells #[.string ⟨#[59]⟩,.string ⟨#[123]⟩] 9)).heap.size:=by simp
 generalize w0.alloc (.cells #[.string ⟨#[59]⟩,.string ⟨#[123]⟩] 9)=w1 at *;refine(VK B r _ [⟨#[59]⟩,⟨#[123]⟩] _ w1 (S0.o.below B1.o oo) oo (by simp) hlt1 II.o).mono ?_;rw[Lm.o,Hc.o];rintro e w2 ⟨v1,sv,v2,rfl,hcut,hb2⟩;obtain⟨t,ka,ks,kc,rfl,hks,hsome,hbody⟩:=hcut.val;obtain⟨va,vc,rfl⟩:=hcut.ahead.form;obtain⟨ba,bc,rfl⟩:=hcut.behind.form;have B2:Hid (Below w0.heap.size w0 w2):=B1.o.trans (hb2.mono hs1);have Yr:Hid (Below rb w w2):=B0.o.trans (B2.o.mono hsz0);have HA:Hid (Sl (fun b=>b<B) w2 (.slice va c.1.length vc) c.1):=hcut.ahead;have VL:Hid (Sl (fun b=>b<B) w2 (.slice ba c.2.2.length bc) c.2.2):=hcut.behind;have HKS:Hid (Sl (fun b=>b<B) w2 (.slice ka ks.length kc) ks):=hks;have HSM:Hid ((dw c.2.1).isSome=ay t (b1 123)):=hsome;have Rj:Hid (∀b,dw c.2.1=some b->ks=b):=hbody
 have R2:Hid (Q4 118 w2 rb (.string ⟨#[]⟩) (.slice none 0 0) (.bool false) (.slice none 0 0)):=by show _=_;rw[B2.o.block rb hlt0];exact R0.o
 have hs2:=B2.o.size;clear hcut hks hsome hbody hb2 S0 II hlt1 B1;unfold dM;have A3:Hid (VB (w2.alloc (.cells #[.int .i64 t.kind,.string t.word,.string t.unit,.slice ka ks.length kc] 168)).drew w2.heap.size (.int .i64 t.kind) (.string t.word) (.string t.unit) (.slice ka ks.length kc)):=VB.new _ _ _ _ _;have X3:Hid (Below w2.heap.size w2 (w2.alloc (.cells #[.int .i64 t.kind,.string t.word,.string t.unit,.slice ka ks.length kc] 168)).drew):=((Below.refl _ _).alloc nl _).drew;go_wp2_with fail;refine wp_region_any (by kernel_rfl) ?_;change wpAny _ _ _ _ _ _ _ (World.drew _);generalize(w2.alloc (.cells #[.int .i64 t.kind,.string t.word,.string t.unit,.slice ka ks.length kc] 168)).drew=w3 at *;obtain⟨gt,oU⟩:∃gt,Hid (w2.heap.size=gt):=⟨_,hid rfl⟩;have A4:Hid (VB w3 gt (.int .i64 t.kind) (.string t.word) (.string t.unit) (.slice ka ks.length kc)):=by rw[<-oU.o];exact A3.o
 rw[oU.o];have BW3:Hid (Below rb w w3):=Yr.o.trans (X3.o.mono oo);have R3:Hid (Q4 118 w3 rb (.string ⟨#[]⟩) (.slice none 0 0) (.bool false) (.slice none 0 0)):=R2.o.below X3.o;have Om:Below rb w w3/\VB w3 gt (.int .i64 t.kind) (.string t.word) (.string t.unit) (.slice ka ks.length kc):=⟨BW3.o,A4.o⟩;have JD:Hid (Below rb w w3/\VB w3 gt (.int .i64 t.kind) (.string t.word) (.string t.unit) (.slice ka ks.length kc)):=Om;clear Om A3;obtain⟨sb,Yt⟩:∃sb,Hid (ay t (b1 123)=sb):=⟨_,hid rfl⟩;rw[Yt.o]at HSM;refine wpAny_of_held (S:=fun wx=>Below rb w wx/\VB wx gt (.int .i64 t.kind) (.string t.word) (.string t.unit) (.slice ka ks.length kc)) _ _ _ _ ?_;refine bY 0 rfl JD.o (fun _ _=>gs) ?_;refine bY 1 rfl JD.o (fun _ _=>gs) ?_
 refine bY 2 rfl JD.o (fun _ _=>gs) ?_;refine bY 3 rfl JD.o (fun _ _=>gs) ?_;refine bY 4 rfl JD.o (by intro w hSw;have q1:=Gy.o w hSw.1;exact gs) ?_;refine bY 5 rfl JD.o (fun _ _=>gs) ?_;refine bY 6 rfl JD.o (by intro w hSw;obtain⟨a0,a1,a2,a3⟩:=hSw.2.cs;exact gs) ?_;refine bY 8 rfl JD.o (by intro w hSw;obtain⟨a0,a1,a2,a3⟩:=hSw.2.cs;exact gs) ?_;refine bY 9 rfl JD.o (by intro w hSw;obtain⟨a0,a1,a2,a3⟩:=hSw.2.cs;exact gs) ?_;refine bY 11 rfl JD.o (fun _ _=>gs) ?_;refine jh 7 fun K hK=>?_;go_simp;refine(jU t _ (b1 123) _).mono ?_;rw[Yt.o];rintro e w4 ⟨rfl,hb4⟩
 have X4:Hid (Below w2.heap.size w2 w4):=X3.o.trans (hb4.mono X3.o.size);have Oo:Hid (Below rb w w4):=Yr.o.trans (X4.o.mono oo);have JE:Hid (Below rb w w4/\VB w4 gt (.int .i64 t.kind) (.string t.word) (.string t.unit) (.slice ka ks.length kc)):=⟨Oo.o,A4.o.below hb4⟩;have R4:Hid (Q4 118 w4 rb (.string ⟨#[]⟩) (.slice none 0 0) (.bool false) (.slice none 0 0)):=R3.o.below hb4;clear hb4 R3 R2;refine hK.o _ _ JE.o (fun _=>?_);clear hK K;refine bY 10 rfl JE.o (fun _ _=>gs) ?_;have z0:=R4.o.fz 0;have z1:=R4.o.fz 1;have z2:=R4.o.fz 2;have z3:=R4.o.fz 3;obtain⟨q0,q1,q2,q3⟩:=R4.o.cs;have hne:gt≠rb:=by have:=oU.o;omega
 have HH5:Hid (Below rb w (nC w4 rb (.string n.t.word) (.slice va c.1.length vc) (.bool sb) (.slice ka ks.length kc))/\VB (nC w4 rb (.string n.t.word) (.slice va c.1.length vc) (.bool sb) (.slice ka ks.length kc)) gt (.int .i64 t.kind) (.string t.word) (.string t.unit) (.slice ka ks.length kc)):=⟨kC Oo.o nl _ _ _ _,by show _=_;rw[jA w4 hne];exact JE.o.2⟩;refine jh 12 fun K hK=>?_;go_simp;refine hK.o _ _ (HH5.o) (fun _=>?_);clear hK K;refine jh 13 fun K hK=>?_;go_simp;refine hK.o _ _ (HH5.o) (fun _=>?_);clear hK K;refine wpAnyH_done (by kernel_rfl) ?_ _;go_wp2_with fail;refine bodyPost_ret (v:=.tuple #[.agg #[.string n.t.word,.slice va c.1.length vc,.bool sb,.slice ka ks.length kc],.slice ba c.2.2.length bc]) (by simp[results,Tryz.results205,go_sem,q0,q1,q2,q3]) rfl ?_
 have hst:∀k,k<B->(nC w4 rb (.string n.t.word) (.slice va c.1.length vc) (.bool sb) (.slice ka ks.length kc)).heap[k]?=w2.heap[k]?:=fun k hk=>by rw[jA w4 oo];exact X4.o.block k oo
 exact⟨_,_,_,by rw[HSM.o],⟨HA.o.keep (fun _ hg=>hg) hst,ks,HKS.o.keep (fun _ hg=>hg) hst,Rj.o⟩,VL.o.keep (fun _ hg=>hg) hst,by rw[mF.o];exact HH5.o.1⟩
end
section
attribute [local go_sem] dH dI bQ bT
def iC(n:Nd)(r:List Nd):ByteArray×List Nd×Option (List Nd)×List Nd:=
 if n.t.kind=10 then(n.t.word,(bM (fun m=>aW m||aQ m) r).1,dw (bM (fun m=>aW m||aQ m) r).2.1,(bM (fun m=>aW m||aQ m) r).2.2)
 else(aA,(bM aQ (n::r)).1,dw (bM aQ (n::r)).2.1,(bM aQ (n::r)).2.2)
theorem OO(B:Nat)(n:Nd)(r:List Nd)(v:Value)(w:World)(h:Sl (fun b=>b<B) w v (n::r))(hB:B<=w.heap.size):
  Calls prog 173 #[v] w fun e w'=>∃hv bv v2,e=.returned (.tuple #[.agg #[.string (iC n r).1,hv,.bool (iC n r).2.2.1.isSome,bv],v2]) /\
   aaA B w' (iC n r).2.1 (iC n r).2.2.1 hv bv/\Sl (fun b=>b<B) w' v2 (iC n r).2.2.2/\Below w.heap.size w w':=by
 obtain⟨g,o,nv,cap,rfl,hN,hcap⟩:=h.head;have HS:Hid (Sl (fun b=>b<B) w (.slice (some ⟨g,o,none⟩) (r.length+1) cap) (n::r)):=h;have hgB:g<B:=hN.s;have Gy:Hid (∀wx,Below w.heap.size w wx->wx.cell? ⟨g,o,none⟩=some (.int .i64 n.t.kind)):=fun wx hb=>by rw[hb.cell (p:=⟨g,_,none⟩) (show g<w.heap.size by omega)];exact hN.c0
 have Cc:=h.len;clear h hN;have R0:Hid (Q4 118 (w.alloc (.cells #[.string ⟨#[]⟩,.slice none 0 0,.bool false,.slice none 0 0] 118)) w.heap.size (.string ⟨#[]⟩) (.slice none 0 0) (.bool false) (.slice none 0 0)):=Q4.new _ _ _ _ _ _;have B0:Hid (Below w.heap.size w (w.alloc (.cells #[.string ⟨#[]⟩,.slice none 0 0,.bool false,.slice none 0 0] 118))):=(Below.refl _ _).alloc nl _;go_in;go_upto_region 1 with fail
 have hsz0:=B0.o.size;have hlt0:=R0.o.lt;generalize w.alloc (.cells #[.string ⟨#[]⟩,.slice none 0 0,.bool false,.slice none 0 0] 118)=w0 at *;obtain⟨rb,mF⟩:∃rb,Hid (w.heap.size=rb):=⟨_,hid rfl⟩;rw[mF.o]at B0 R0 hB hlt0 hsz0 Gy⊢;have S0:Hid (Sl (fun b=>b<B) w0 (.slice (some ⟨g,o,none⟩) (r.length+1) cap) (n::r)):=HS.o.below B0.o hB;have c0:=Gy.o w0 B0.o;clear HS;cases hk:(n.t.kind==10)
 .have hk':¬n.t.kind=10:=by simpa using hk
  obtain⟨c,Hc⟩:∃c,Hid (bM aQ (n::r)=c):=⟨_,hid rfl⟩;have HO:Hid (iC n r=(aA,c.1,dw c.2.1,c.2.2)):=by show _=_;unfold iC;rw[if_neg hk',Hc.o]
  have Lm:Hid (mZ [⟨#[123]⟩]=aQ):=funext stop1;clear hk';have B1:Hid (Below w0.heap.size w0 (w0.alloc (.cells #[.string ⟨#[123]⟩] 9))):=(Below.refl _ _).alloc nl _;have II:Hid (∀j,j<1->(w0.alloc (.cells #[.string ⟨#[123]⟩] 9)).cell? ⟨w0.heap.size,0+j,none⟩=some (.string ([(⟨#[123]⟩:ByteArray)].getD j ByteArray.empty))):=by intro j hj;have hh:(w0.alloc (.cells #[.string ⟨#[123]⟩] 9)).heap[w0.heap.size]?=_:=heap_alloc_new w0 _;unfold World.cell?;rw[hh];obtain rfl:j=0:=oo;rfl
  go_wp2_with fail;have hs1:=B1.o.size;have hlt1:w0.heap.size<(w0.alloc (.cells #[.string ⟨#[123]⟩] 9)).heap.size:=by simp
  generalize w0.alloc (.cells #[.string ⟨#[123]⟩] 9)=w1 at *;refine(VK B (n::r) _ [⟨#[123]⟩] _ w1 (S0.o.below B1.o oo) oo (by simp) hlt1 II.o).mono ?_;rw[Lm.o,Hc.o];rintro e w2 ⟨v1,sv,v2,rfl,hcut,hb2⟩;obtain⟨t,ka,ks,kc,rfl,hks,hsome,hbody⟩:=hcut.val;obtain⟨va,vc,rfl⟩:=hcut.ahead.form;obtain⟨ba,bc,rfl⟩:=hcut.behind.form;have B2:Hid (Below w0.heap.size w0 w2):=B1.o.trans (hb2.mono hs1);have Yr:Hid (Below rb w w2):=B0.o.trans (B2.o.mono hsz0);have HA:Hid (Sl (fun b=>b<B) w2 (.slice va c.1.length vc) c.1):=hcut.ahead;have VL:Hid (Sl (fun b=>b<B) w2 (.slice ba c.2.2.length bc) c.2.2):=hcut.behind;have HKS:Hid (Sl (fun b=>b<B) w2 (.slice ka ks.length kc) ks):=hks;have HSM:Hid ((dw c.2.1).isSome=ay t (b1 123)):=hsome;have Rj:Hid (∀b,dw c.2.1=some b->ks=b):=hbody
  have R2:Hid (Q4 118 w2 rb (.string ⟨#[]⟩) (.slice none 0 0) (.bool false) (.slice none 0 0)):=by show _=_;rw[B2.o.block rb hlt0];exact R0.o
  have hs2:=B2.o.size;clear hcut hks hsome hbody hb2 S0 II hlt1 B1 c0;unfold dM;have A3:Hid (VB (w2.alloc (.cells #[.int .i64 t.kind,.string t.word,.string t.unit,.slice ka ks.length kc] 168)).drew w2.heap.size (.int .i64 t.kind) (.string t.word) (.string t.unit) (.slice ka ks.length kc)):=VB.new _ _ _ _ _;have X3:Hid (Below w2.heap.size w2 (w2.alloc (.cells #[.int .i64 t.kind,.string t.word,.string t.unit,.slice ka ks.length kc] 168)).drew):=((Below.refl _ _).alloc nl _).drew;go_wp2_with fail;refine wp_region_any (by kernel_rfl) ?_;change wpAny _ _ _ _ _ _ _ (World.drew _);generalize(w2.alloc (.cells #[.int .i64 t.kind,.string t.word,.string t.unit,.slice ka ks.length kc] 168)).drew=w3 at *;obtain⟨gt,oU⟩:∃gt,Hid (w2.heap.size=gt):=⟨_,hid rfl⟩
  have A4:Hid (VB w3 gt (.int .i64 t.kind) (.string t.word) (.string t.unit) (.slice ka ks.length kc)):=by rw[<-oU.o];exact A3.o
  rw[oU.o];have R3:Hid (Q4 118 w3 rb (.string ⟨#[]⟩) (.slice none 0 0) (.bool false) (.slice none 0 0)):=R2.o.below X3.o;clear A3;obtain⟨sb,Yt⟩:∃sb,Hid (ay t (b1 123)=sb):=⟨_,hid rfl⟩;rw[Yt.o]at HSM;refine wpAny_of_held (S:=fun wx=>VB wx gt (.int .i64 t.kind) (.string t.word) (.string t.unit) (.slice ka ks.length kc)) _ _ _ _ ?_;refine bY 0 rfl A4.o (fun _ _=>gs) ?_;refine bY 1 rfl A4.o (by intro w hSw;obtain⟨a0,a1,a2,a3⟩:=hSw.cs;exact gs) ?_;refine bY 3 rfl A4.o (by intro w hSw;obtain⟨a0,a1,a2,a3⟩:=hSw.cs;exact gs) ?_;refine bY 4 rfl A4.o (by intro w hSw;obtain⟨a0,a1,a2,a3⟩:=hSw.cs;exact gs) ?_;refine bY 6 rfl A4.o (fun _ _=>gs) ?_;refine jh 2 fun K hK=>?_;go_simp
  refine(jU t _ (b1 123) _).mono ?_;rw[Yt.o];rintro e w4 ⟨rfl,hb4⟩;have X4:Hid (Below w2.heap.size w2 w4):=X3.o.trans (hb4.mono X3.o.size);have Oo:Hid (Below rb w w4):=Yr.o.trans (X4.o.mono oo);have A5:Hid (VB w4 gt (.int .i64 t.kind) (.string t.word) (.string t.unit) (.slice ka ks.length kc)):=A4.o.below hb4;have R4:Hid (Q4 118 w4 rb (.string ⟨#[]⟩) (.slice none 0 0) (.bool false) (.slice none 0 0)):=R3.o.below hb4;clear hb4 R3 R2;refine hK.o _ _ A5.o (fun _=>?_);clear hK K;refine bY 5 rfl A5.o (fun _ _=>gs) ?_;have z0:=R4.o.fz 0;have z1:=R4.o.fz 1;have z2:=R4.o.fz 2;have z3:=R4.o.fz 3;obtain⟨q0,q1,q2,q3⟩:=R4.o.cs;have hne:gt≠rb:=by have:=oU.o;omega
  have HB5:Hid (Below rb w (nC w4 rb (.string ⟨#[]⟩) (.slice va c.1.length vc) (.bool sb) (.slice ka ks.length kc))):=kC Oo.o nl _ _ _ _;have A6:Hid (VB (nC w4 rb (.string ⟨#[]⟩) (.slice va c.1.length vc) (.bool sb) (.slice ka ks.length kc)) gt (.int .i64 t.kind) (.string t.word) (.string t.unit) (.slice ka ks.length kc)):=by show _=_;rw[jA w4 hne];exact A5.o
  refine jh 7 fun K hK=>?_;go_simp;refine hK.o _ _ (A6.o) (fun _=>?_);clear hK K;refine jh 8 fun K hK=>?_;go_simp;refine hK.o _ _ (A6.o) (fun _=>?_);clear hK K;refine wpAnyH_done (by kernel_rfl) ?_ _;go_wp2_with fail;refine bodyPost_ret (v:=.tuple #[.agg #[.string ⟨#[]⟩,.slice va c.1.length vc,.bool sb,.slice ka ks.length kc],.slice ba c.2.2.length bc]) (by simp[results,Tryz.results173,go_sem,q0,q1,q2,q3]) rfl ?_;have hst:∀k,k<B->(nC w4 rb (.string ⟨#[]⟩) (.slice va c.1.length vc) (.bool sb) (.slice ka ks.length kc)).heap[k]?=w2.heap[k]?:=fun k hk=>by rw[jA w4 oo];exact X4.o.block k oo
  rw[HO.o];exact⟨_,_,_,by rw[HSM.o];rfl,⟨HA.o.keep (fun _ hg=>hg) hst,ks,HKS.o.keep (fun _ hg=>hg) hst,Rj.o⟩,VL.o.keep (fun _ hg=>hg) hst,by rw[mF.o];exact HB5.o⟩
 .have hk':n.t.kind=10:=by simpa using hk
  obtain⟨c,Hc⟩:∃c,Hid (bM (fun m=>aW m||aQ m) r=c):=⟨_,hid rfl⟩;have HO:Hid (iC n r=(n.t.word,c.1,dw c.2.1,c.2.2)):=by show _=_;unfold iC;rw[if_pos hk',Hc.o]
  clear hk';go_wp2_with fail;refine(Ll B n r _ w0 S0.o oo).mono ?_;rw[Hc.o];rintro e w2 ⟨hv,bv,v2,rfl,Tc,VN,hb2⟩;obtain⟨va,vc,rfl⟩:=Tc.head.form;obtain⟨bl,hbl,hbe⟩:=Tc.body;obtain⟨ka,kc,rfl⟩:=hbl.form;obtain⟨ba,bc,rfl⟩:=VN.form;obtain⟨sb,Yt⟩:∃sb,Hid ((dw c.2.1).isSome=sb):=⟨_,hid rfl⟩;rw[Yt.o];have Yr:Hid (Below rb w w2):=B0.o.trans (hb2.mono hsz0);have HA:Hid (Sl (fun b=>b<B) w2 (.slice va c.1.length vc) c.1):=Tc.head;have VL:Hid (Sl (fun b=>b<B) w2 (.slice ba c.2.2.length bc) c.2.2):=VN;have HKS:Hid (Sl (fun b=>b<B) w2 (.slice ka bl.length kc) bl):=hbl;have Rj:Hid (∀b,dw c.2.1=some b->bl=b):=hbe;have R2:Hid (Q4 118 w2 rb (.string ⟨#[]⟩) (.slice none 0 0) (.bool false) (.slice none 0 0)):=R0.o.below hb2;clear Tc hbl hbe VN hb2 S0 c0;have z0:=R2.o.fz 0;have z1:=R2.o.fz 1;have z2:=R2.o.fz 2;have z3:=R2.o.fz 3
  obtain⟨q0,q1,q2,q3⟩:=R2.o.cs;go_wp2_with fail;refine bodyPost_ret (v:=.tuple #[.agg #[.string n.t.word,.slice va c.1.length vc,.bool sb,.slice ka bl.length kc],.slice ba c.2.2.length bc]) (by simp[results,Tryz.results173,go_sem,q0,q1,q2,q3]) rfl ?_;have hst:∀k,k<B->(nC w2 rb (.string n.t.word) (.slice va c.1.length vc) (.bool sb) (.slice ka bl.length kc)).heap[k]?=w2.heap[k]?:=fun k hk=>jA w2 oo _ _ _ _;rw[HO.o];exact⟨_,_,_,by rw[Yt.o],⟨HA.o.keep (fun _ hg=>hg) hst,bl,HKS.o.keep (fun _ hg=>hg) hst,Rj.o⟩,VL.o.keep (fun _ hg=>hg) hst,by rw[mF.o];exact kC Yr.o nl _ _ _ _⟩
end
section
attribute [local go_sem] dH dI bQ bT
theorem jW(st:Nd->Bool):∀(l:List Nd),(bM st l).2.2.length<=l.length-1
 |[]=>by simp[bM]
 |n::r=>by
  unfold bM;split
  .simp
  .have:=jW st r;simp only[List.length_cons];show(bM st r).2.2.length<=_;omega
theorem Ce(sh:Bool):∀(f g:Nat) (l:List Nd),l.length<=f->l.length<=g->lU f sh l=lU g sh l:=by
 intro f;induction f with
 |zero=>intro g l hf hg;obtain rfl:l=[]:=List.eq_nil_of_length_eq_zero oo;cases g<;>rfl
 |succ f ih=>
  intro g l hf hg;cases l with
  |nil=>cases g<;>rfl
  |cons n r=>
   cases g with
   |zero=>simp at hg
   |succ g=>
    simp only[List.length_cons]at hf hg;unfold lU;dsimp only
    have h1:=jW (fun m=>aW m||aQ m) r;have h2:=jW aQ (n::r);simp only[List.length_cons]at h2;rw[ih g r oo oo,ih g (bM (fun m=>aW m||aQ m) r).2.2 oo oo,ih g (bM aQ (n::r)).2.2 oo oo]
theorem En{sh:Bool}{n:Nd}{r:List Nd}(h:qF sh n=true):rules sh (n::r)=rules sh r:=by
 unfold rules;show lU (r.length+1) sh (n::r)=_;conv=>lhs;unfold lU
 rw[if_pos h]
theorem xY(st:Nd->Bool):∀(l:List Nd) (b:Nd),(bM st l).2.1=some b->st b=true
 |[],b,h=>by simp[bM]at h
 |n::r,b,h=>by
  unfold bM at h;split at h
  .simp at h;subst h;assumption
  .exact xY st r b h
theorem IJ(st:Nd->Bool):∀(l:List Nd),(bM st l).2.1=none->(bM st l).2.2=[]
 |[],_=>by simp[bM]
 |n::r,h=>by
  unfold bM at h⊢;split at h
  .simp at h
  .rename_i hq;rw[if_neg hq];exact IJ st r h
def lW(o:ByteArray×List Nd×Option (List Nd)×List Nd):List Rule:=
 if o.1=aA then(match o.2.2.1 with|none=>[]|some b=>[⟨none,o.2.1,some b⟩]) else [⟨some o.1,o.2.1,o.2.2.1⟩]
theorem IK{sh:Bool}{n:Nd}{r:List Nd}(h:qF sh n=false)(hn:n.t.kind=10->n.t.word≠aA):rules sh (n::r)=lW (iC n r)++rules sh (iC n r).2.2.2:=by
 have h1:=jW (fun m=>aW m||aQ m) r;have h2:=jW aQ (n::r);simp only[List.length_cons]at h2;unfold rules;show lU (r.length+1) sh (n::r)=_;conv=>lhs;unfold lU
 rw[if_neg (by rw[h];simp)];by_cases hk:n.t.kind=10
 .rw[if_pos hk];unfold iC lW;rw[if_pos hk];simp only;rw[if_neg (hn hk),Ce sh r.length _ _ oo nl];rfl
 .rw[if_neg hk];unfold iC lW;rw[if_neg hk];simp only[if_true];cases hc:(bM aQ (n::r)).2.1 with
  |none=>rw[IJ _ _ hc];rfl
  |some b=>
   have hb:=xY _ _ _ hc;show(⟨none,_,some b.kids⟩:Rule)::_=(match (if aQ b=true then some b.kids else none)with|none=>[]|some q=>[(⟨none,_,some q⟩:Rule)])++_;rw[if_pos hb,Ce sh r.length _ _ oo nl];rfl
def kL:ug Rule:=fun S w r cs=>∃hv bv bl,cs=[.string (r.at_.getD aA),hv,.bool r.body.isSome,bv]/\Sl S w hv r.head/\Sl S w bv bl/\(∀b,r.body=some b->bl=b)/\(∀x,r.at_=some x->x≠aA/\x.size<=4000000)
theorem kL.fair:Fair kL:=by rintro S S' w w' r cs hS hw ⟨hv,bv,bl,h1,h2,h3,h4,h5⟩;exact⟨hv,bv,bl,h1,h2.keep hS hw,h3.keep hS hw,h4,h5⟩
theorem kL.sized:qG kL 4:=by rintro S w r cs ⟨hv,bv,bl,rfl,_⟩;rfl
theorem JF{α:Type}{C:ug α}{sz:Nat}(hF:Fair C)(hZ:qG C sz){T:TypeId}{base:Nat}{w:World}{v:Value}{l:List α}{cs:List Value}{S:Nat->Prop}(h1:w.ownsRow base T sz v l.length cs)(h2:jv C S w l cs)(hS:∀g,S g->g<w.heap.size)(h6:l.length<=2097152):SG C sz (fun b=>b<w.heap.size) w v l:=by
 have h3:jv C (fun b=>b<w.heap.size) w l cs:=h2.keep hF hS (fun _ _=>rfl);rcases h1.2 with⟨rfl,hn⟩|⟨g,cap,cur,rfl,hbg,hg,hnc,hrest⟩
 .have:l=[]:=List.eq_nil_of_length_eq_zero hn;subst this;exact SG.iG _ _ _ _ _ _
 .refine⟨_,cap,rfl,⟨hnc,h6⟩,fun _=>⟨g,0,rfl,jv.lies (S:=fun b=>b<w.heap.size) hZ (Array.getElem?_eq_some_iff.1 hg).1 l cs 0 h3 fun j u hu=>?_⟩⟩;have:=h1.cells (g:=g) rfl j u hu;rw[Addr.add_lit,Nat.zero_add]at this;rw[Nat.zero_add];exact this
theorem Td:∃i,prog.info? 118=some i/\i.zero=some (.agg #[.string ⟨#[]⟩,.slice none 0 0,.bool false,.slice none 0 0])/\i.size=4/\i.bytes=72:=info_parts (by kernel_rfl)
structure RaI(B:Nat)(sh:Bool)(w:World)(l:List Nd)(u:Value)(acc:List Rule)(cs:List Value)(cv:Value)(cur:List Nd)(wr:World):Prop where
 row:wr.ownsRow w.heap.size 118 4 u acc.length cs
 cat:jv kL (fun b=>b<B) wr acc cs
 now:Sl (fun b=>b<B) wr cv cur
 below:Below w.heap.size w wr
 eq:rules sh l=acc++rules sh cur
 ln:acc.length+cur.length<=l.length
end
end Go.Proofs.YtlliliddljkbfaaGreatDoor
