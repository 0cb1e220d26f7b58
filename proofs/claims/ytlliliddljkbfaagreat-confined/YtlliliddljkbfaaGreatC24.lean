import Derived.Test.YtlliliddljkbfaaGreatC23
set_option maxHeartbeats 64000000
set_option maxRecDepth 100000
namespace Go.Proofs.YtlliliddljkbfaaGreat
open Go.Proofs.Tryz (prog)
open Go.RowKit Sp
theorem ajT(n:Nat)(a:Option Addr)(cap:Nat)(w:WD):
  Calls prog 61 #[.agg #[.slice a n cap]] w fun ex w'=>ex=.returned (.int .i64 (n:Int))/\Below w.heap.size w w':=by
 have B1:Hid (Below w.heap.size w (w.alloc (.cells #[.slice a n cap] 66))):=Ax.alloc nl _;have V1:Hid (bU (w.alloc (.cells #[.slice a n cap] 66)) w.heap.size (.slice a n cap) 66):=bU.new _ _ _;have c0:=V1.o.c;go_in;go_wp2_with fail;go_ret;exact⟨rfl,B1.o⟩
theorem ahf:∃i,prog.info? 127=some i/\i.zero=some (.map none)/\i.size=1/\i.bytes=8:=info_parts Ao
theorem aa8{w:WD}{base e s n:Nat}{v:Av}{xs:List Av}(h:w.ownsRow base e s v n xs){k:TypeId}{b:Nat}{m:Av->Option Av}(hm:pY k w b m):v.ownBlock≠some b:=by
 intro e1;obtain⟨es,c,h1,_⟩:=hm;rcases h.2 with⟨rfl,_⟩|⟨g,cap,cur,rfl,_,hg,_⟩
 .cases e1
 .cases e1;rw[h1]at hg;cases hg
def mpV(b:Nat):Av:=.map (some b)
structure OfI(w:WD)(pv u:Av)(bs:List Nat)(wr:WD):Prop where
 row:wr.ownsRow (w.heap.size+4) 127 1 u bs.length (bs.map mpV)
 cas:K3 wr (w.heap.size+1+1+1) pv u (.map (some (w.heap.size+1+1)))
 res:K3 wr (w.heap.size+1) (.slice none 0 0) (.slice none 0 0) (.map none)
 known:pY 133 wr (w.heap.size+1+1) (fun _=>none)
 maps:∀b∈bs,pY 9 wr b (fun _=>none)
 lo:∀b∈bs,w.heap.size+4<=b
 nd:bs.Nodup
 below:Below w.heap.size w wr
 size:w.heap.size+4<=wr.heap.size
theorem OfI.next{w:WD}{pv u:Av}{bs:List Nat}{wr w':WD}(h:OfI w pv u bs wr)(hb:Below wr.heap.size wr w'):OfI w pv u bs w':=⟨aP h.row fun r hr=>hb.block r (h.row.lt r hr).2,h.cas.below hb,h.res.below hb,h.known.keep (hb.block _ h.known.lt),fun b hm=>(h.maps b hm).keep (hb.block _ (h.maps b hm).lt),h.lo,h.nd,h.below.trans (hb.mono h.below.size),Nat.le_trans h.size hb.size⟩
theorem OfI.more{w:WD}{pv u u':Av}{bs:List Nat}{wr w':WD}{m:Nat}(h:OfI w pv u bs wr)(hm:m=wr.heap.size)
  (hrow:w'.ownsRow (w.heap.size+4) 127 1 u' (bs.length+1) (bs.map mpV++[mpV m])) (hg:((wr.alloc (.map #[] 0)).alloc (.cells #[mpV m] 127)).grownBy w' u.ownBlock):
  OfI w pv u' (bs++[m]) (w'.setCell ⟨w.heap.size+1+1+1,1,none⟩ u'):=by
 have hsz:=h.size;have hlo:∀rr,u.ownBlock=some rr->w.heap.size+4<=rr:=fun rr hr=>(h.row.lt rr hr).1;have keep:∀b,b<wr.heap.size->some b≠u.ownBlock->w'.heap[b]?=wr.heap[b]?:=fun b hb hn=>by rw[hg.block b (by simp;omega) hn,Below.heap_alloc _ _ _ An,Below.heap_alloc _ _ _ hb]
 have aeg:∀b,b<wr.heap.size->some b≠u.ownBlock->b≠w.heap.size+1+1+1->(w'.setCell ⟨w.heap.size+1+1+1,1,none⟩ u').heap[b]?=wr.heap[b]?:=fun b hb hn hc=>by rw[Below.heap_setCell _ _ _ _ hc];exact keep b hb hn
 have ajU:∀b,b<w.heap.size+4->some b≠u.ownBlock:=fun b hb e=>by have:=hlo b e.symm;omega
 have hmn:(w'.setCell ⟨w.heap.size+1+1+1,1,none⟩ u').heap[m]?=some (.map #[] 0):=by
  have hu:some m≠u.ownBlock:=fun e=>by have:=(h.row.lt m e.symm).2;omega
  rw[Below.heap_setCell _ _ _ _ (show m≠_ by show m≠w.heap.size+1+1+1;omega),hg.block m An hu,Below.heap_alloc _ _ _ An,hm];exact heap_alloc_new wr _
 have hcas:w'.heap[w.heap.size+1+1+1]?=_:=(keep _ oo (ajU _ oo)).trans h.cas;refine⟨?_,?_,?_,?_,?_,?_,?_,?_,?_⟩
 .rw[List.length_append,List.map_append];refine aP hrow fun r hr=>?_;have:=(hrow.lt r hr).1;exact Below.heap_setCell _ _ _ _ (by show r≠w.heap.size+1+1+1;omega)
 .exact bQ w' _ 1 _ _ _ u' hcas
 .exact(show _=_ from(aeg _ oo (ajU _ oo) oo).trans h.res)
 .exact h.known.keep (aeg _ oo (ajU _ oo) oo)
 .intro b hb;rcases List.mem_append.1 hb with hb|hb
  .exact(h.maps b hb).keep (aeg _ (h.maps b hb).lt (fun e=>aa8 h.row (h.maps b hb) e.symm) (by have:=h.lo b hb;omega))
  .rw[List.mem_singleton.1 hb];exact⟨#[],0,hmn,by simp,by simp,by simp,by simp⟩
 .intro b hb;rcases List.mem_append.1 hb with hb|hb
  .exact h.lo b hb
  .rw[List.mem_singleton.1 hb];omega
 .rw[List.nodup_append];refine⟨h.nd,by simp,fun x hx y hy e=>?_⟩;rw[List.mem_singleton.1 hy]at e;have:=(h.maps x hx).lt;omega
 .exact(((h.below.alloc h.below.size _).alloc (by simp;have:=h.below.size;omega) _).grown hg An (fun rr hr=>by have:=hlo rr hr;omega)).setCell (p:=⟨w.heap.size+1+1+1,1,none⟩) (by show w.heap.size<=w.heap.size+1+1+1;omega) _
 .have:=hg.size;simp[World.setCell]at this⊢;omega
theorem LG.shq{S:Nat->Prop}{w:WD}{l:List (List Rule)}{g o i:Nat}(h:LG (One dB 4) 1 S w l g o)(hi:i<l.length):∃cv,w.cell? ⟨g,o+i,none⟩=some cv/\SG dB 4 S w cv l[i]/\S g:=by obtain⟨h0,cs,⟨cv,rfl,hs⟩,hc⟩:=h.at l g o i hi;refine⟨cv,?_,hs,h0⟩;have:=hc 0 _ rfl;rw[Nat.mul_one,Nat.add_zero]at this;exact this
theorem LG.rlq{S:Nat->Prop}{w:WD}{l:List Rule}{g o i:Nat}(h:LG dB 4 S w l g o)(hi:i<l.length):∃hv bv bl,(w.cell? ⟨g,o+i*4,none⟩=some (.string (l[i].at_.getD aA))/\w.cell? ⟨g,o+i*4+1,none⟩=some hv/\w.cell? ⟨g,o+i*4+2,none⟩=some (.bool l[i].body.isSome)/\w.cell? ⟨g,o+i*4+3,none⟩=some bv)/\Sl S w hv l[i].head/\Sl S w bv bl/\(∀b,l[i].body=some b->bl=b)/\S g:=by obtain⟨h0,cs,⟨hv,bv,bl,rfl,h1,h2,h3,_⟩,hc⟩:=h.at l g o i hi;refine⟨hv,bv,bl,⟨?_,hc 1 _ rfl,hc 2 _ rfl,hc 3 _ rfl⟩,h1,h2,h3,h0⟩;have:=hc 0 _ rfl;rwa[Nat.add_zero]at this
theorem K3.fz{w:WD}{b:Nat}{x0 x1 x2:Av}(h:K3 w b x0 x1 x2)(k:Nat):w.frozen? ⟨b,k,none⟩=false:=by have h':w.heap[b]?=_:=h;unfold World.frozen?;rw[h'];simp
theorem aeh(w:WD)(v:Av):
  OfI w v (.slice none 0 0) [] ((((w.alloc (.cells #[v] 66)).alloc (.cells #[.slice none 0 0,.slice none 0 0,.map none] 77)).alloc (.map #[] 0)).alloc (.cells #[v,.slice none 0 0,.map (some (w.heap.size+1+1))] 77)) /\
  bU ((((w.alloc (.cells #[v] 66)).alloc (.cells #[.slice none 0 0,.slice none 0 0,.map none] 77)).alloc (.map #[] 0)).alloc (.cells #[v,.slice none 0 0,.map (some (w.heap.size+1+1))] 77)) w.heap.size v 66:=by
 refine⟨⟨World.ownsRow_nil _ _ _ _,?_,?_,?_,by simp,by simp,by simp,?_,by simp⟩,?_⟩
 .have:=heap_alloc_new (((w.alloc (.cells #[v] 66)).alloc (.cells #[.slice none 0 0,.slice none 0 0,.map none] 77)).alloc (.map #[] 0)) (.cells #[v,.slice none 0 0,.map (some (w.heap.size+1+1))] 77);show _=_;simpa using this
 .have:=heap_alloc_new (w.alloc (.cells #[v] 66)) (.cells #[.slice none 0 0,.slice none 0 0,.map none] 77);show _=_;rw[Below.heap_alloc _ _ _ (by simp),Below.heap_alloc _ _ _ (by simp)];simpa using this
 .have:=heap_alloc_new ((w.alloc (.cells #[v] 66)).alloc (.cells #[.slice none 0 0,.slice none 0 0,.map none] 77)) (.map #[] 0);refine⟨#[],0,?_,by simp,by simp,by simp,by simp⟩;rw[Below.heap_alloc _ _ _ (by simp)];simpa using this
 .exact(((Ax.alloc nl _).alloc Ab _).alloc An _).alloc An _
 .exact(((bU.new w v _).alloc _).alloc _).alloc _
theorem ajV{w:WD}{base:Nat}{u:Av}{bs:List Nat}(h:w.ownsRow base 127 1 u bs.length (bs.map mpV))(h0:1<=bs.length):∃rb wc,u=.slice (some ⟨rb,0,none⟩) bs.length wc/\bs.length<=wc/\(∀i (h:i<bs.length),w.cell? ⟨rb,0+i,none⟩=some (.map (some bs[i]))):=by
 have hc:=fun g=>h.cells (g:=g);rcases h.2 with⟨rfl,hn⟩|⟨g,cap,cur,rfl,hbg,hg,hnc,hrest⟩
 .omega
 .refine⟨g,cap,rfl,hnc,fun i hi=>?_⟩;have:=hc g rfl i (mpV bs[i]) (by rw[List.getElem?_map,List.getElem?_eq_getElem hi];rfl);rw[Addr.add_lit]at this;exact this
section
attribute [local go_sem] bI bJ aX aY
end
def wdL(l:List Nd)(x:BY):Bool:=match l with|[n]=>ru (.mk n.t []) x|_=>false
theorem ajW{l:List Nd}{x:BY}(h:¬l.length=1):wdL l x=false:=by
 match l with
 |[]=>rfl
 |[n]=>exact absurd rfl h
 |_::_::_=>rfl
theorem JX(B:Nat)(l:List Nd)(v:Av)(x:BY)(w:WD)(h:Sl (fun b=>b<B) w v l):
  Calls prog 96 #[v,.string x] w fun e w'=>e=.returned (.bool (wdL l x))/\Below w.heap.size w w':=by
 have FU:=h.len;have HS:=hid h;obtain⟨a,cap,rfl⟩:=h.form;clear h;by_cases h1:l.length=1
 .obtain⟨n,rfl⟩:∃n,l=[n]:=List.length_eq_one_iff.1 h1;obtain⟨g,o,nv,cap',e',hN,hcap⟩:=HS.o.head;have e1:a=some ⟨g,o,none⟩:=by cases e';rfl
  have ec:cap=cap':=by cases e';rfl
  subst e1 ec;obtain⟨c0,c1,c2,c3⟩:_/\_/\_/\_:=⟨hN.c0,hN.c1,hN.c2,hN.c3⟩;have hw:=hN.ok.word;obtain⟨ka,kc,rfl⟩:=hN.k.form;have hcp:1<=cap:=by simpa using hcap
  clear hN e' h1;show Calls prog 96 #[.slice (some ⟨g,o,none⟩) 1 cap,.string x] w fun e w'=>e=.returned (.bool (ru (.mk n.t []) x))/\Below w.heap.size w w';have HC:=hid (Q8 n.t (.slice ka n.kids.length kc) x w hw);go_in;go_wp2_with fail;refine HC.o.mono ?_;rintro ex w2 ⟨rfl,hb2⟩;have B2:=hid hb2;clear hb2;go_wp2_with fail;go_ret;exact⟨rfl,B2.o⟩
 .rw[ajW h1];have e1:((l.length:Int)==1)=false:=by
   rw[beq_eq_false_iff_ne];omega
  have e2:¬(l.length:Int)=1:=oo;clear h1;go_in;go_wp2_with fail;go_ret;exact⟨rfl,Ax⟩
def hdB(x:BY):Bool:=decide (x=⟨#[99,111,108,111,114]⟩)||decide (x=⟨#[102,111,110,116,45,115,105,122,101]⟩)||decide (x=⟨#[113,117,111,116,101,115]⟩)||custom x
theorem JY(x:BY)(w:WD):Calls prog 162 #[.string x] w fun e w'=>e=.returned (.bool (hdB x))/\w'=w:=by
 unfold hdB;have l1:=ay x [99,111,108,111,114];have l2:=ay x [102,111,110,116,45,115,105,122,101];have l3:=ay x [113,117,111,116,101,115];have l1':(x.toList==[99,111,108,111,114])=decide (x=⟨#[99,111,108,111,114]⟩):=l1;have l2':(x.toList==[102,111,110,116,45,115,105,122,101])=decide (x=⟨#[102,111,110,116,45,115,105,122,101]⟩):=l2;have l3':(x.toList==[113,117,111,116,101,115])=decide (x=⟨#[113,117,111,116,101,115]⟩):=l3;clear l1 l2 l3;rw[<-l1',<-l2',<-l3'];clear l1' l2' l3';have HC:=hid (rE x w);cases e1:(x.toList==[99,111,108,111,114])
 .cases e2:(x.toList==[102,111,110,116,45,115,105,122,101])
  .cases e3:(x.toList==[113,117,111,116,101,115])
   .go_in;go_wp2_with fail;refine HC.o.mono ?_;rintro ex wq ⟨rfl,hwq⟩;rw[hwq];clear hwq;go_wp2_with fail;go_ret;exact⟨rfl,rfl⟩
   .go_in;go_wp2_with fail;go_ret;exact⟨rfl,rfl⟩
  .go_in;go_wp2_with fail;go_ret;exact⟨rfl,rfl⟩
 .go_in;go_wp2_with fail;go_ret;exact⟨rfl,rfl⟩
theorem TS(B:Nat)(p:aI)(a:Option Addr)(cap e:Nat)(w:WD)(h:jZ B w p a cap)(he:e<p.length):
  Calls prog 100 #[.agg #[.slice a p.length cap],.int .i64 (e:Int)] w fun ex w'=>ex=.returned (.int .i64 (parentOf p e))/\Below w.heap.size w w':=by
 have B0:Hid (Below w.heap.size w (w.alloc (.cells #[.slice a p.length cap] 66))):=Ax.alloc nl _;have V0:Hid (bU (w.alloc (.cells #[.slice a p.length cap] 66)) w.heap.size (.slice a p.length cap) 66):=bU.new _ _ _;have c0:=V0.o.c;obtain⟨g,o,rfl,hgB,hcap,hcs⟩:=(h.alloc (.cells #[.slice a p.length cap] 66)).at;have c1:=hcs e he;have h1:(e:Int)<(p.length:Int):=oo;have hlen:=h.len;clear hcs h;go_in;go_wp2_with fail;go_ret;exact⟨rfl,B0.o⟩
open Go.ChangeMaps (setBlock)
open Go.Maps (Keyed)
theorem Zf:Keyed prog 133:=Keyed.of_law (deep_law (m:=2) oo Ao Ao Ao)
theorem aiw(e:Nat)(s:BY)(he:e<64)(hs:s.size<=4000000):∃l,keyOf prog 133 (.agg #[.int .i64 (e:Int),.string s])=some l:=by
 have hwf:(Lit.int .i64 (e:Int)).wf=true:=by
  have h1:IntKind.i64.min<=(e:Int):=by
   have:IntKind.i64.min<=0:=by decide
   omega
  have h2:(e:Int)<=IntKind.i64.max:=by
   have:(64:Int)<=IntKind.i64.max:=by decide
   omega
  show(decide (IntKind.i64.min<=(e:Int))&&decide ((e:Int)<=IntKind.i64.max))=true;rw[decide_eq_true h1,decide_eq_true h2];rfl
 have hsz:s.size<=maxLen:=by unfold maxLen;omega
 have hk:prog.keyType 133=true:=by kernel_rfl
 have hc:prog.cellsOf 133=2:=by kernel_rfl
 have hci:prog.cellsOf 3=1:=by kernel_rfl
 have hcs:prog.cellsOf 9=1:=by kernel_rfl
 have ht:prog.types.size=(prog.types.size-1)+1:=by kernel_rfl
 unfold keyOf;simp only[Tryz.underlying133];rw[if_pos (by simp[hk,Value.formed,Tryz.underlying133,hc]),ht];unfold Program.keyLits;simp only[Tryz.underlying133,Value.cells];rw[if_pos (by rw[hc];exact⟨rfl,by kernel_rfl⟩)];generalize prog.types.size-1=d;have k1:prog.keyLits (d+1) 3 [.int .i64 (e:Int)]=some [.int .i64 (e:Int)]:=by unfold Program.keyLits;simp only[Tryz.underlying3];exact if_pos ⟨trivial,hwf⟩
 have k2:prog.keyLits (d+1) 9 [.string s]=some [.string s.data.toList]:=by unfold Program.keyLits;simp only[Tryz.underlying9];exact if_pos hsz
 simp only[List.mapM_cons,List.mapM_nil,hci,hcs,List.drop_zero,List.drop_succ_cons,List.take_succ_cons,List.take_zero,k1,k2];exact⟨_,rfl⟩
def qV(e:Nat)(s:BY):Av:=.agg #[.int .i64 (e:Int),.string s]
def aV(t:BY):Av:=.agg #[.string t]
theorem ajX{e e':Nat}{s s':BY}(h:qV e s=qV e' s'):e=e'/\s=s':=by unfold qV at h;simp at h;exact⟨oo,h.2⟩
theorem aei(w:WD):(zeroValue 135).run prog w=.ok (.agg #[.string ⟨#[]⟩]) w:=by kernel_rfl
section
def lN:BY:=⟨#[117,110,115,101,116]⟩
def jU:BY:=⟨#[105,110,104,101,114,105,116]⟩
def nInitial:BY:=⟨#[105,110,105,116,105,97,108]⟩
section
variable {B:Nat} {w w':WD} {p:aI} {a:Option Addr} {cap:Nat} {wa:Option Addr} {wc:Nat} {bs:List Nat} {kb:Nat} {F:Nat->BY->Option jS}
end
end
open Go.ChangeMaps (setBlock)
open Go.ChangeMaps (setBlock)
def Qb(w:WD)(b:Nat)(x0 x1:Av):Prop:=w.heap[b]?=some (.cells #[x0,x1] 133 (0,0))
theorem Qb.cs{w:WD}{b:Nat}{x0 x1:Av}(h:Qb w b x0 x1):w.cell? ⟨b,0,none⟩=some x0/\w.cell? ⟨b,1,none⟩=some x1:=by have h':w.heap[b]?=_:=h;refine⟨?_,?_⟩<;>(unfold World.cell?;rw[h'];rfl)
theorem Qb.lt{w:WD}{b:Nat}{x0 x1:Av}(h:Qb w b x0 x1):b<w.heap.size:=(Ay h)
theorem Qb.new(w:WD)(x0 x1:Av):Qb (w.alloc (.cells #[x0,x1] 133)) w.heap.size x0 x1:=heap_alloc_new w _
theorem Qb.below{w w':WD}{b:Nat}{x0 x1:Av}(h:Qb w b x0 x1)(hb:Below w.heap.size w w'):Qb w' b x0 x1:=by show _=_;rw[hb.block _ h.lt];exact h
theorem aej{mb:Nat}{w w2:WD}{o:Obj}(h:Turn mb w w2):Turn mb w (setBlock w2 mb o):=
 ⟨h.os,h.tape,h.output,by show _<=(w2.heap.setIfInBounds mb o).size;simpa using h.size,fun g hg hne=>by show(w2.heap.setIfInBounds mb o)[g]?=_;rw[Array.getElem?_setIfInBounds_ne (fun e=>hne e.symm)];exact h.block g hg hne⟩
section
attribute [local go_sem] bI bJ aX aY
theorem TT(L B:Nat)(l:List Nd)(v:Av)(w:WD)(h:Sl (Rg L B) w v l)(hB:B<=w.heap.size)(hLw:L<=w.heap.size):
  Calls prog 69 #[v] w fun e w'=>∃u,e=.returned u/\SG dB 4 (oD L w') w' u (rules true l)/\Below w.heap.size w w':=by
 obtain⟨a,cap,rfl⟩:=h.form;have B1:Hid (Below w.heap.size w (w.alloc (.cells #[.int .i64 1,.int .i64 8,.int .i64 9] 3))):=Ax.alloc nl _;have S1:=hid (h.vO B1.o hB);have IE:Hid (∀j,j<3->(w.alloc (.cells #[.int .i64 1,.int .i64 8,.int .i64 9] 3)).cell? ⟨w.heap.size,0+j,none⟩=some (.int .i64 (([1,8,9]:List Int).getD j 0))):=by intro j hj;have hh:(w.alloc (.cells #[.int .i64 1,.int .i64 8,.int .i64 9] 3)).heap[w.heap.size]?=_:=heap_alloc_new w _;unfold World.cell?;rw[hh];rcases(show j=0\/j=1\/j=2 by omega)with rfl|rfl|rfl<;>rfl
 clear h;go_in;go_wp2_with fail;have hlt1:w.heap.size<(w.alloc (.cells #[.int .i64 1,.int .i64 8,.int .i64 9] 3)).heap.size:=by simp
 generalize w.alloc (.cells #[.int .i64 1,.int .i64 8,.int .i64 9] 3)=w1 at *;refine(Nb L B true l _ [1,8,9] _ w1 S1.o oo Ab hlt1 IE.o IG oo).mono ?_;rintro e w2 ⟨u,rfl,hsg,hb2⟩;obtain⟨ua,uc,rfl⟩:=hsg.form;have B2:=hid (B1.o.trans (hb2.mono oo));have Rn:=hid hsg;clear hsg hb2;go_wp2_with fail;go_ret;exact⟨_,rfl,Rn.o,B2.o⟩
end
theorem TU(s:BY)(w:WD)(hs:s.size<=600)(hl:Lit w)(hd:depth (bH s)<=8):
  Calls prog 40 #[.string s] w fun e w'=>∃u,e=.returned (.tuple #[u,.bool true])/\SG dB 4 (oD w.heap.size w') w' u (rules true (bH s))/\Below w.heap.size w w':=by
 have HL:=hid hl;have hcs:=oZ s;have htl:=WM (Sp.clean s);have HTO:Hid (∀t∈toks (Sp.clean s),dI t):=Oz oo;obtain⟨nd,Hnd⟩:=Nm (bH s);have Hn2:Hid (nodes (toks (Sp.clean s))=nd):=Hnd.o;rw[Hnd.o]at hd;rw[Hnd.o];clear hl;go_in;go_wp2_with fail;refine(Df s w hs HL.o.glob HL.o.pos).mono ?_;rintro e w1 ⟨c,cap,n,rfl,hcw,hch,hb1⟩;have HC:=hid hch;have B1:=hid hb1;have hs1:=hb1.size;clear hch hb1;go_wp2_with fail;refine(adn (toks (Sp.clean s)) c cap n 0 w1 HC.o oo HTO.o).mono ?_;rw[Hn2.o];rintro e w2 ⟨v2,rfl,hS2,hT2⟩;obtain⟨va,vc,rfl⟩:=hS2.form;have B2:Hid (Below w.heap.size w w2):=Turn.over B1.o hT2 hcw;have hs2:=B2.o.size
 have HS2:Hid (Sl (Rg w.heap.size w2.heap.size) w2 (.slice va nd.length vc) nd):=hS2.keep (fun _ h=>⟨by have:=h.1;omega,h.2⟩) (fun _ _=>rfl);clear hS2 hT2 HC;have hd3:(depth nd:Int)<=8:=oo;clear hd;go_wp2_with fail;refine(TT w.heap.size w2.heap.size nd _ w2 HS2.o nl hs2).mono ?_;rintro e w3 ⟨u3,rfl,WW,hb3⟩;obtain⟨ra,rc,rfl⟩:=WW.form;have Rn:=hid WW;have B3:=hid (B2.o.trans (hb3.mono hs2));clear WW hb3;go_wp2_with fail;go_ret2
 exact⟨_,rfl,Rn.o,B3.o⟩
theorem aek:∃i,prog.info? 85=some i/\i.zero=some (.slice none 0 0)/\i.size=1/\i.bytes=24:=info_parts Ao
def KR(s:BY):List Rule:=rules true (bH s)
theorem ahg(s:BY)(w:WD):Calls prog 60 #[.string s] w fun e w'=>e=.returned (.bool (decide (600<s.size)))/\w'=w:=by
 by_cases h:600<s.size
 .have h1:(600:Int)<(s.size:Int):=oo;rw[decide_eq_true h];go_in;go_wp2_with fail;go_ret;exact⟨by first|rfl|simp[h1],rfl⟩
 .have h1:(s.size:Int)<=600:=oo;have h2:¬(600:Int)<(s.size:Int):=oo;rw[decide_eq_false h];go_in;go_wp2_with fail;go_ret;exact⟨by first|rfl|simp[h2]|(simp;omega),rfl⟩
theorem aa9(S:Nat->Prop)(sh:List BY)(v:Av)(w:WD)(h:SG eX 1 S w v sh)(hn:sh.length<=4)(hs:∀s∈sh,s.size<=600):
  Calls prog 34 #[v] w fun e w'=>e=.returned (.bool false)/\w'=w:=by
 have HC:=hid (rM sh v 60 (fun s=>decide (600<s.size)) S w h (fun _ _=>rfl) (fun x w _=>ahg x w));have hany:sh.any (fun s=>decide (600<s.size))=false:=by rw[List.any_eq_false];intro s hm;have:=hs s hm;simp;omega
 rw[hany]at HC;obtain⟨a,cap,rfl⟩:=h.form;have h4:(sh.length:Int)<=4:=oo;clear h hs hany;go_in;go_wp2_with fail;refine HC.o.mono ?_;rintro e wq ⟨rfl,hwq⟩;rw[hwq];clear hwq;go_wp2_with fail;go_ret;exact⟨rfl,rfl⟩
