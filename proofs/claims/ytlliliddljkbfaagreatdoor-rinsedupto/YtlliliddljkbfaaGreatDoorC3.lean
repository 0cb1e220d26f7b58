import Derived.Test.YtlliliddljkbfaaGreatDoorC2
import Derived.Maps.AppendAt
namespace Go.Proofs.YtlliliddljkbfaaGreatDoor
set_option maxHeartbeats 64000000
set_option maxRecDepth 100000
open Go.Proofs.Tryz (prog)
open Go.RowKit Sp
section
theorem hid{p:Prop}(h:p):Hid p:=h
theorem fP(a:ByteArray):a.toList=a.data.toList:=by simp[ByteArray.toList_eq]
theorem bytes_beq(a b:ByteArray):(a.toList==b.toList)=decide (a=b):=by
 rw[Bool.eq_iff_iff,beq_iff_eq,decide_eq_true_iff,fP,fP];constructor
 .intro h;exact ByteArray.ext (Array.toList_inj.1 h)
 .rintro rfl;rfl
theorem aH(a:ByteArray)(l:List UInt8):(a.toList==l)=decide (a=⟨l.toArray⟩):=by rw[<-bytes_beq a ⟨l.toArray⟩,fP ⟨l.toArray⟩]
def dM(t:Tok)(kv:Value):Value:=.agg #[.int .i64 t.kind,.string t.word,.string t.unit,kv]
mutual
def xC(S:Nat->Prop)(w:World):Nd->Nat->Nat->Prop
 |.mk t k,g,o=>(S g/\cZ t)/\w.cell? ⟨g,o,none⟩=some (.int .i64 t.kind)/\w.cell? ⟨g,o+1,none⟩=some (.string t.word)/\w.cell? ⟨g,o+2,none⟩=some (.string t.unit) /\
   ∃(a:Option Addr) (cap:Nat),w.cell? ⟨g,o+3,none⟩=some (.slice a k.length cap)/\(k.length<=cap/\k.length<=600)/\(k≠[]->∃g' o',a=some ⟨g',o',none⟩/\eP S w k g' o')
def eP(S:Nat->Prop)(w:World):List Nd->Nat->Nat->Prop
 |[],_,_=>True
 |n::r,g,o=>xC S w n g o/\eP S w r g (o+4)
end
def Sl(S:Nat->Prop)(w:World)(v:Value)(ns:List Nd):Prop:=∃(a:Option Addr) (cap:Nat),v=.slice a ns.length cap/\(ns.length<=cap/\ns.length<=600)/\(ns≠[]->∃g o,a=some ⟨g,o,none⟩/\eP S w ns g o)
section
variable {S S':Nat->Prop} {w w':World}
theorem Iz(t:Tok)(k:List Nd)(g o:Nat):xC S w (.mk t k) g o↔(S g/\cZ t)/\w.cell? ⟨g,o,none⟩=some (.int .i64 t.kind)/\w.cell? ⟨g,o+1,none⟩=some (.string t.word)/\w.cell? ⟨g,o+2,none⟩=some (.string t.unit) /\
  ∃kv,w.cell? ⟨g,o+3,none⟩=some kv/\Sl S w kv k:=by
 unfold xC Sl;constructor
 .rintro ⟨h0,h1,h2,h3,a,cap,h4,h5⟩;exact⟨h0,h1,h2,h3,_,h4,a,cap,rfl,h5⟩
 .rintro ⟨h0,h1,h2,h3,kv,h4,a,cap,rfl,h5⟩;exact⟨h0,h1,h2,h3,a,cap,h4,h5⟩
mutual
theorem xC.keep(hS:∀g,S g->S' g)(hw:∀g,S g->w'.heap[g]?=w.heap[g]?):∀(n:Nd) (g o:Nat),xC S w n g o->xC S' w' n g o
 |.mk t k,g,o,h=>by unfold xC at h⊢;obtain⟨⟨h0,hok⟩,h1,h2,h3,a,cap,h4,hc,h5⟩:=h;have e:∀x,w'.cell? ⟨g,x,none⟩=w.cell? ⟨g,x,none⟩:=fun x=>World.cell?_of_block (w:=w) (hw g h0);refine⟨⟨hS g h0,hok⟩,by rw[e];exact h1,by rw[e];exact h2,by rw[e];exact h3,a,cap,by rw[e];exact h4,hc,fun hk=>?_⟩;obtain⟨g',o',h6,h7⟩:=h5 hk;exact⟨g',o',h6,eP.keep hS hw k g' o' h7⟩
theorem eP.keep(hS:∀g,S g->S' g)(hw:∀g,S g->w'.heap[g]?=w.heap[g]?):∀(l:List Nd) (g o:Nat),eP S w l g o->eP S' w' l g o
 |[],_,_,_=>by simp[eP]
 |n::r,g,o,h=>by unfold eP at h⊢;exact⟨xC.keep hS hw n g o h.1,eP.keep hS hw r g (o+4) h.2⟩
end
theorem Sl.keep{v:Value}{ns:List Nd}(h:Sl S w v ns)(hS:∀g,S g->S' g)(hw:∀g,S g->w'.heap[g]?=w.heap[g]?):Sl S' w' v ns:=by obtain⟨a,cap,h1,hc,h2⟩:=h;refine⟨a,cap,h1,hc,fun hn=>?_⟩;obtain⟨g,o,h3,h4⟩:=h2 hn;exact⟨g,o,h3,h4.keep hS hw⟩
theorem Sl.nil(S:Nat->Prop)(w:World):Sl S w (.slice none 0 0) []:=⟨none,0,rfl,by simp,fun h=>absurd rfl h⟩
theorem Sl.len{v:Value}{ns:List Nd}(h:Sl S w v ns):ns.length<=600:=by obtain⟨_,_,_,hc,_⟩:=h;exact hc.2
theorem Sl.below{B B':Nat}{v:Value}{ns:List Nd}(h:Sl (fun b=>b<B) w v ns)(hb:Below B' w w')(hB:B<=B'):Sl (fun b=>b<B) w' v ns:=h.keep (fun _ hg=>hg) fun g hg=>hb.block g (Nat.lt_of_lt_of_le hg hB)
theorem Sl.mono{B B':Nat}{v:Value}{ns:List Nd}(h:Sl (fun b=>b<B) w v ns)(hB:B<=B'):Sl (fun b=>b<B') w v ns:=h.keep (fun _ hg=>Nat.lt_of_lt_of_le hg hB) fun _ _=>rfl
theorem Sl.drewN{v:Value}{ns:List Nd}(h:Sl S w v ns)(n:Nat):Sl S (w.drewN n) v ns:=h.keep (fun _ hg=>hg) fun _ _=>rfl
theorem eP.at:∀(l:List Nd) (g o i:Nat) (_:eP S w l g o) (hi:i<l.length),xC S w l[i] g (o+i*4)
 |n::r,g,o,0,h,_=>by unfold eP at h;simpa using h.1
 |n::r,g,o,i+1,h,hi=>by unfold eP at h;have:=eP.at r g (o+4) i h.2 (by simpa using hi);rw[show o+(i+1)*4=o+4+i*4 from by omega];simpa using this
theorem eP.drop:∀(l:List Nd) (g o i:Nat) (_:eP S w l g o),eP S w (l.drop i) g (o+i*4)
 |l,g,o,0,h=>by simpa using h
 |[],g,o,i+1,h=>by simp[eP]
 |n::r,g,o,i+1,h=>by unfold eP at h;rw[show o+(i+1)*4=o+4+i*4 from by omega];simpa using eP.drop r g (o+4) i h.2
theorem eP.take:∀(l:List Nd) (g o i:Nat) (_:eP S w l g o),eP S w (l.take i) g o
 |l,g,o,0,h=>by simp[eP]
 |[],g,o,i+1,h=>by simp[eP]
 |n::r,g,o,i+1,h=>by unfold eP at h;simp only[List.take_succ_cons];unfold eP;exact⟨h.1,eP.take r g (o+4) i h.2⟩
theorem eP.block{l:List Nd}{g o:Nat}(h:eP S w l g o)(hl:l≠[]):S g:=by
 cases l with
 |nil=>exact absurd rfl hl
 |cons n r=>cases n;unfold eP at h;unfold xC at h;exact h.1.1.1
end
theorem Sl.cut{S:Nat->Prop}{w:World}{a:Option Addr}{n cap:Nat}{ns:List Nd}(h:Sl S w (.slice a n cap) ns)(i j:Nat)(hij:i<=j)(hj:j<=ns.length):Sl S w (sliced a i j cap 4) ((ns.take j).drop i):=by
 obtain⟨a',cap',h1,⟨hc,h6⟩,h2⟩:=h;cases h1;unfold sliced;have hl:((ns.take j).drop i).length=j-i:=by simp;omega
 refine⟨_,cap-i,by rw[hl],⟨oo,oo⟩,fun hn=>?_⟩;have hne:ns≠[]:=by rintro rfl;simp at hn
 have hlt:i<j:=by
  by_cases e:i<j
  .exact e
  .exact absurd (List.eq_nil_of_length_eq_zero oo) hn
 obtain⟨g,o,rfl,h4⟩:=h2 hne;refine⟨g,o+i*4,?_,(h4.take ns g o j).drop _ g o i⟩;rw[if_neg oo];simp[Addr.add]
theorem Sl.iG(S:Nat->Prop)(w:World)(a:Option Addr)(c:Nat):Sl S w (.slice a 0 c) []:=⟨a,c,rfl,⟨by simp,by simp⟩,fun h=>absurd rfl h⟩
theorem Sl.tail{S:Nat->Prop}{w:World}{g o n cap:Nat}{x:Nd}{r:List Nd}(h:Sl S w (.slice (some ⟨g,o,none⟩) n cap) (x::r)):Sl S w (.slice (some ⟨g,o+4,none⟩) r.length (cap-1)) r:=by obtain⟨a',cap',h1,⟨hc,h6⟩,h2⟩:=h;cases h1;simp only[List.length_cons]at hc h6;refine⟨_,cap-1,rfl,⟨oo,oo⟩,fun _=>?_⟩;obtain⟨g',o',e,h4⟩:=h2 (by simp);cases e;unfold eP at h4;exact⟨g,o+4,rfl,h4.2⟩
theorem Sl.init{S:Nat->Prop}{w:World}{a:Option Addr}{n cap:Nat}{ns:List Nd}(h:Sl S w (.slice a n cap) ns)(j:Nat)(hj:j<=ns.length):Sl S w (.slice a j cap) (ns.take j):=by obtain⟨a',cap',h1,⟨hc,h6⟩,h2⟩:=h;cases h1;refine⟨a,cap,by simp;omega,⟨by simp;omega,by simp;omega⟩,fun hn=>?_⟩;obtain⟨g,o,rfl,h4⟩:=h2 (by rintro rfl;simp at hn);exact⟨g,o,rfl,h4.take ns g o j⟩
theorem Sl.here{S:Nat->Prop}{w:World}{a:Option Addr}{n cap:Nat}{ns:List Nd}(h:Sl S w (.slice a n cap) ns)(hn:ns≠[]):∃g o,a=some ⟨g,o,none⟩/\eP S w ns g o/\ns.length<=cap:=by obtain⟨a',cap',h1,⟨hc,h6⟩,h2⟩:=h;cases h1;obtain⟨g,o,rfl,h4⟩:=h2 hn;exact⟨g,o,rfl,h4,hc⟩
theorem Sl.form{S:Nat->Prop}{w:World}{v:Value}{ns:List Nd}(h:Sl S w v ns):∃a cap,v=.slice a ns.length cap:=by obtain⟨a,cap,h1,_⟩:=h;exact⟨a,cap,h1⟩
structure lZ(S:Nat->Prop)(w:World)(n:Nd)(g o:Nat)(kv:Value):Prop where
 s:S g
 c0:w.cell? ⟨g,o,none⟩=some (.int .i64 n.t.kind)
 c1:w.cell? ⟨g,o+1,none⟩=some (.string n.t.word)
 c2:w.cell? ⟨g,o+2,none⟩=some (.string n.t.unit)
 c3:w.cell? ⟨g,o+3,none⟩=some kv
 k:Sl S w kv n.kids
 ok:cZ n.t
theorem eP.node{S:Nat->Prop}{w:World}{l:List Nd}{g o i:Nat}(h:eP S w l g o)(hi:i<l.length):∃kv,lZ S w l[i] g (o+i*4) kv:=by
 have h1:=h.at l g o i hi;obtain⟨t,k,e⟩:∃t k,l[i]=Nd.mk t k:=by cases l[i];exact⟨_,_,rfl⟩
 rw[e]at h1⊢;rw[Iz]at h1;obtain⟨⟨h0,hok⟩,h1,h2,h3,kv,h4,h5⟩:=h1;exact⟨kv,h0,h1,h2,h3,h4,h5,hok⟩
theorem Sl.head{S:Nat->Prop}{w:World}{v:Value}{x:Nd}{r:List Nd}(h:Sl S w v (x::r)):∃g o kv cap,v=.slice (some ⟨g,o,none⟩) (r.length+1) cap/\lZ S w x g o kv/\r.length+1<=cap:=by obtain⟨a,cap,rfl⟩:=h.form;obtain⟨g,o,rfl,hL,hc⟩:=h.here (by simp);obtain⟨kv,hN⟩:=hL.node (i:=0) (by simp);exact⟨g,o,kv,cap,rfl,by simpa using hN,hc⟩
def kY(S:Nat->Prop)(w:World):List Nd->List Value->Prop
 |[],cs=>cs=[]
 |n::r,cs=>∃kv rest,cs=[.int .i64 n.t.kind,.string n.t.word,.string n.t.unit,kv]++rest/\(Sl S w kv n.kids/\cZ n.t)/\kY S w r rest
theorem kY.keep{S S':Nat->Prop}{w w':World}(hS:∀g,S g->S' g)(hw:∀g,S g->w'.heap[g]?=w.heap[g]?):∀(l:List Nd) (cs:List Value),kY S w l cs->kY S' w' l cs
 |[],_,h=>h
 |_::r,_,⟨kv,rest,h1,h2,h3⟩=>⟨kv,rest,h1,⟨h2.1.keep hS hw,h2.2⟩,kY.keep hS hw r rest h3⟩
theorem kY.snoc{S:Nat->Prop}{w:World}:∀(l:List Nd) (cs:List Value) (_:kY S w l cs) (n:Nd) (kv:Value) (_:Sl S w kv n.kids/\cZ n.t),kY S w (l++[n]) (cs++[.int .i64 n.t.kind,.string n.t.word,.string n.t.unit,kv])
 |[],cs,h,n,kv,hk=>⟨kv,[],by simp[show cs=[] from h],hk,rfl⟩
 |m::r,cs,⟨kv',rest,h1,h2,h3⟩,n,kv,hk=>⟨kv',rest++[.int .i64 n.t.kind,.string n.t.word,.string n.t.unit,kv],by simp[h1],h2,kY.snoc r rest h3 n kv hk⟩
theorem kY.len{S:Nat->Prop}{w:World}:∀(l:List Nd) (cs:List Value),kY S w l cs->cs.length=l.length*4
 |[],cs,h=>by rw[show cs=[] from h];rfl
 |_::r,_,⟨_,rest,h1,_,h3⟩=>by rw[h1];simp[kY.len r rest h3];omega
theorem kY.lies{S:Nat->Prop}{w:World}{g:Nat}(hg:S g):∀(l:List Nd) (cs:List Value) (o:Nat) (_:kY S w l cs) (_:∀j u,cs[j]?=some u->w.cell? ⟨g,o+j,none⟩=some u),eP S w l g o
 |[],_,_,_,_=>by simp[eP]
 |.mk t k::r,cs,o,⟨kv,rest,h1,h2,h3⟩,hc=>by subst h1;unfold eP;rw[Iz];refine⟨⟨⟨hg,h2.2⟩,hc 0 _ rfl,hc 1 _ rfl,hc 2 _ rfl,kv,hc 3 _ rfl,h2.1⟩,kY.lies hg r rest (o+4) h3 fun j u hu=>?_⟩;rw[show o+4+j=o+(j+4) from by omega];exact hc (j+4) u (by simpa using hu)
def oO(base:Nat)(w:World)(v:Value)(b:Nat):Prop:=base<=b/\b<w.heap.size/\some b≠v.ownBlock
def vV(base:Nat)(w:World)(b:Nat):Prop:=base<=b/\b<w.heap.size
def uK(T:TypeId)(base:Nat)(w:World)(v:Value)(l:List Nd):Prop:=∃cs,w.ownsRow base T 4 v l.length cs/\kY (oO base w v) w l cs
theorem uK.nil(T:TypeId)(base:Nat)(w:World):uK T base w (.slice none 0 0) []:=⟨[],World.ownsRow_nil _ _ _ _,rfl⟩
theorem uK.sl{T:TypeId}{base:Nat}{w:World}{v:Value}{l:List Nd}(h:uK T base w v l)(h6:l.length<=600):Sl (vV base w) w v l:=by
 obtain⟨cs,h1,h2⟩:=h;have h3:kY (vV base w) w l cs:=h2.keep (fun g hg=>⟨hg.1,hg.2.1⟩) (fun _ _=>rfl);rcases h1.2 with⟨rfl,hn⟩|⟨g,cap,cur,rfl,hbg,hg,hnc,hrest⟩
 .have:l=[]:=List.eq_nil_of_length_eq_zero hn;subst this;exact Sl.nil _ _
 .refine⟨_,cap,rfl,⟨hnc,h6⟩,fun _=>⟨g,0,rfl,kY.lies ⟨hbg,(Array.getElem?_eq_some_iff.1 hg).1⟩ l cs 0 h3 fun j u hu=>?_⟩⟩;have:=h1.cells (g:=g) rfl j u hu;rw[Addr.add_lit,Nat.zero_add]at this;rw[Nat.zero_add];exact this
theorem uK.lt{T:TypeId}{base:Nat}{w:World}{v:Value}{l:List Nd}(h:uK T base w v l):∀k,v.ownBlock=some k->base<=k/\k<w.heap.size:=by obtain⟨cs,h1,_⟩:=h;exact h1.lt
theorem uK.keep{T:TypeId}{base:Nat}{w w':World}{v:Value}{l:List Nd}(h:uK T base w v l)(hs:w.heap.size<=w'.heap.size)(hw:∀g,base<=g->g<w.heap.size->w'.heap[g]?=w.heap[g]?):uK T base w' v l:=by
 obtain⟨cs,h1,h2⟩:=h;refine⟨cs,⟨h1.1,?_⟩,h2.keep (fun g hg=>⟨hg.1,by have:=hg.2.1;omega,hg.2.2⟩) (fun g hg=>hw g hg.1 hg.2.1)⟩;rcases h1.2 with hn|⟨g,cap,cur,rfl,hbg,hgg,rest⟩
 .exact .inl hn
 .exact .inr ⟨g,cap,cur,rfl,hbg,by rw[hw g hbg (Array.getElem?_eq_some_iff.1 hgg).1];exact hgg,rest⟩
theorem uK.below{T:TypeId}{base:Nat}{w w':World}{v:Value}{l:List Nd}(h:uK T base w v l)(hb:Below w.heap.size w w'):uK T base w' v l:=h.keep hb.size fun g _ hg=>hb.block g hg
theorem uK.alloc{T:TypeId}{base:Nat}{w:World}{v:Value}{l:List Nd}(h:uK T base w v l)(o:Obj):uK T base (w.alloc o) v l:=h.keep (by simp) fun g _ hg=>Below.heap_alloc _ _ _ hg
theorem uK.form{T:TypeId}{base:Nat}{w:World}{v:Value}{l:List Nd}(h:uK T base w v l):∃a cap,v=.slice a l.length cap:=by
 obtain⟨cs,h1,_⟩:=h;rcases h1.2 with⟨rfl,hn⟩|⟨g,cap,cur,rfl,_⟩
 .exact⟨none,0,by rw[hn]⟩
 .exact⟨_,_,rfl⟩
theorem uK.snoc{T:TypeId}{base:Nat}{w w2:World}{v v2:Value}{l:List Nd}{cs:List Value}{n:Nd}{kv:Value}(h2:kY (oO base w v) w l cs)(hk:Sl (oO base w v) w kv n.kids)(hn:cZ n.t)
  (hown:w2.ownsRow base T 4 v2 (l.length+1) (cs++[.int .i64 n.t.kind,.string n.t.word,.string n.t.unit,kv])) (hg:w.grownBy w2 v.ownBlock) (hat:v2.ownBlock=v.ownBlock\/v2.ownBlock=some w.heap.size):uK T base w2 v2 (l++[n]):=by
 have hS:∀g,oO base w v g->oO base w2 v2 g:=by
  rintro g ⟨h3,h4,h5⟩;refine⟨h3,Nat.lt_of_lt_of_le h4 hg.size,?_⟩;rcases hat with e|e
  .rw[e];exact h5
  .rw[e];intro e2;cases e2;omega
 have hw:∀g,oO base w v g->w2.heap[g]?=w.heap[g]?:=fun g hgg=>hg.block g hgg.2.1 hgg.2.2;refine⟨_,by rw[List.length_append];exact hown,kY.snoc _ _ (h2.keep hS hw) n kv ⟨hk.keep hS hw,hn⟩⟩
theorem uK.apart{T:TypeId}{base:Nat}{w w3 W:World}{v kv:Value}{l ks:List Nd}(h:uK T base w v l)(hk:Sl (vV w.heap.size w3) w3 kv ks)(hbase:base<=w.heap.size)(hs:w3.heap.size<=W.heap.size)(hw:∀g,g<w3.heap.size->W.heap[g]?=w3.heap[g]?):Sl (oO base W v) W kv ks:=hk.keep (fun g hg=>⟨by have:=hg.1;omega,by have:=hg.2;omega,fun e=>by have:=(h.lt g e.symm).2;have:=hg.1;omega⟩) fun g hg=>hw g hg.2
theorem uM(t:Tok)(a:Option Addr)(n c:Nat):∀u∈[Value.int .i64 t.kind,.string t.word,.string t.unit,.slice a n c],u.oneCell'=true:=by simp[Value.oneCell']
end
theorem xE{a b:ByteArray}(h:a=b):Ending.returned (.string a)=Ending.returned (.string b):=by rw[h]
theorem eU(t:Tok)(kv:Value)(x:ByteArray)(w:World):
  Calls prog 66 #[dM t kv,.string x] w fun e w'=>e=.returned (.bool (ay t x))/\Below w.heap.size w w':=by
 unfold dM;cases h:(t.kind==15)
 .have HV:Hid (ay t x=false):=by show _=_;simp at h;simp[ay,h]
  go_in;go_wp2_with fail;go_ret;exact⟨aI HV.o.symm,(Below.refl _ _).alloc nl _⟩
 .have HV:Hid (ay t x=(t.word.toList==x.toList)):=by show _=_;rw[bytes_beq];simp at h;simp[ay,h]
  go_in;go_wp2_with fail;go_ret;exact⟨aI HV.o.symm,(Below.refl _ _).alloc nl _⟩
theorem qN(t:Tok)(w:World):
  Calls prog 76 #[.agg #[.int .i64 t.kind,.string t.word,.string t.unit]] w fun e w'=>e=.returned (.string (closing t))/\Below w.heap.size w w':=by
 cases h11:(t.kind==11)
 .cases h15:(t.kind==15)
  .have HV:Hid (closing t=aA):=by show _=_;simp at h11 h15;simp[closing,h11,h15]
   go_in;go_wp2_with fail;go_ret;exact⟨xE HV.o.symm,(Below.refl _ _).alloc nl _⟩
  .have e15:t.kind=15:=by simpa using h15
   cases pU:(t.word.toList==[40])
   .cases Dt:(t.word.toList==[91])
    .cases Bc:(t.word.toList==[123]);have HV:Hid (closing t=aA):=by show _=_;rw[aH]at pU Dt Bc;simp at pU Dt Bc;simp[closing,e15,b1,pU,Dt,Bc]
     rotate_left;have HV:Hid (closing t=b1 125):=by show _=_;rw[aH]at pU Dt Bc;simp at pU Dt Bc;simp[closing,e15,b1,Bc]
     rotate_left;all_goals
      clear e15;go_in;go_wp2_with fail;go_ret;exact⟨xE HV.o.symm,(Below.refl _ _).alloc nl _⟩
    .have HV:Hid (closing t=b1 93):=by show _=_;rw[aH]at pU Dt;simp at pU Dt;simp[closing,e15,b1,Dt]
     clear e15;go_in;go_wp2_with fail;go_ret;exact⟨xE HV.o.symm,(Below.refl _ _).alloc nl _⟩
   .have HV:Hid (closing t=b1 41):=by show _=_;rw[aH]at pU;simp at pU;simp[closing,e15,b1,pU]
    clear e15;go_in;go_wp2_with fail;go_ret;exact⟨xE HV.o.symm,(Below.refl _ _).alloc nl _⟩
 .have HV:Hid (closing t=b1 41):=by show _=_;simp at h11;simp[closing,h11]
  go_in;go_wp2_with fail;go_ret;exact⟨xE HV.o.symm,(Below.refl _ _).alloc nl _⟩
theorem jU(t:Tok)(kv:Value)(x:ByteArray)(w:World):
  Calls prog 187 #[dM t kv,.string x] w fun e w'=>e=.returned (.bool (ay t x))/\Below w.heap.size w w':=by
 unfold dM;cases h:(t.kind==15)
 .have HV:Hid (ay t x=false):=by show _=_;simp at h;simp[ay,h]
  go_in;go_wp2_with fail;go_ret;exact⟨aI HV.o.symm,(Below.refl _ _).alloc nl _⟩
 .have HV:Hid (ay t x=(t.word.toList==x.toList)):=by show _=_;rw[bytes_beq];simp at h;simp[ay,h]
  go_in;go_wp2_with fail;go_ret;exact⟨aI HV.o.symm,(Below.refl _ _).alloc nl _⟩
theorem Ed(t:Tok)(w:World):
  Calls prog 91 #[.agg #[.int .i64 t.kind,.string t.word,.string t.unit]] w fun e w'=>e=.returned (.string (closing t))/\Below w.heap.size w w':=by
 cases h11:(t.kind==11)
 .cases h15:(t.kind==15)
  .have HV:Hid (closing t=aA):=by show _=_;simp at h11 h15;simp[closing,h11,h15]
   go_in;go_wp2_with fail;go_ret;exact⟨xE HV.o.symm,(Below.refl _ _).alloc nl _⟩
  .have e15:t.kind=15:=by simpa using h15
   cases pU:(t.word.toList==[40])
   .cases Dt:(t.word.toList==[91])
    .cases Bc:(t.word.toList==[123]);have HV:Hid (closing t=aA):=by show _=_;rw[aH]at pU Dt Bc;simp at pU Dt Bc;simp[closing,e15,b1,pU,Dt,Bc]
     rotate_left;have HV:Hid (closing t=b1 125):=by show _=_;rw[aH]at pU Dt Bc;simp at pU Dt Bc;simp[closing,e15,b1,Bc]
     rotate_left;all_goals
      clear e15;go_in;go_wp2_with fail;go_ret;exact⟨xE HV.o.symm,(Below.refl _ _).alloc nl _⟩
    .have HV:Hid (closing t=b1 93):=by show _=_;rw[aH]at pU Dt;simp at pU Dt;simp[closing,e15,b1,Dt]
     clear e15;go_in;go_wp2_with fail;go_ret;exact⟨xE HV.o.symm,(Below.refl _ _).alloc nl _⟩
   .have HV:Hid (closing t=b1 41):=by show _=_;rw[aH]at pU;simp at pU;simp[closing,e15,b1,pU]
    clear e15;go_in;go_wp2_with fail;go_ret;exact⟨xE HV.o.symm,(Below.refl _ _).alloc nl _⟩
 .have HV:Hid (closing t=b1 41):=by show _=_;simp at h11;simp[closing,h11]
  go_in;go_wp2_with fail;go_ret;exact⟨xE HV.o.symm,(Below.refl _ _).alloc nl _⟩
end Go.Proofs.YtlliliddljkbfaaGreatDoor
namespace Go.Proofs.YtlliliddljkbfaaGreatDoor.Sp
set_option maxHeartbeats 64000000
set_option maxRecDepth 100000
theorem jm{n:Nd}{r:List Nd}(h:n.t.kind=1):aC (n::r)=aC r:=by simp[aC,nI,h]
theorem jo{n:Nd}{r:List Nd}(h:¬n.t.kind=1):aC (n::r)=n::r:=by simp[aC,nI,h]
theorem Cb{l:List Nd}{n:Nd}(h:n.t.kind=1):kG (l++[n])=kG l:=by simp[kG,jm h]
theorem uN{l:List Nd}{n:Nd}(h:¬n.t.kind=1):kG (l++[n])=l++[n]:=by simp[kG,jo h]
theorem IB(l:List Nd):(aC l).length<=l.length:=by
 induction l with
 |nil=>simp[aC]
 |cons n r ih=>unfold aC;split<;>simp<;>omega
theorem Rh(l:List Nd):l=[]\/∃i x,l=i++[x]:=by
 rcases List.eq_nil_or_concat l with h|⟨i,x,h⟩
 .exact .inl h
 .exact .inr ⟨i,x,by simpa using h⟩
theorem sF:∀(a:List Nd) (n:Nd),depth (a++[n])=max (depth a) (jS n)
 |[],n=>by simp[depth]
 |m::r,n=>by simp[depth,sF r n,Nat.max_assoc]
theorem mP:∀(l:List Nd) (n:Nd),n∈l->jS n<=depth l
 |m::r,n,h=>by
  rcases List.mem_cons.1 h with rfl|h
  .simp only[depth];omega
  .have:=mP r n h;simp only[depth];omega
theorem uO{n:Nd}(h:closing n.t=aA):jS n=0:=by cases n;unfold jS;exact if_pos h
theorem mY{n:Nd}(h:¬closing n.t=aA):jS n=depth n.kids+1:=by cases n;unfold jS;exact if_neg h
theorem qO:∀(f:Nat) (e:ByteArray) (ts:List Tok),(mX f e ts).1.length+(mX f e ts).2.length<=ts.length
 |0,_,ts=>by simp[mX]
 |f+1,_,[]=>by simp[mX]
 |f+1,e,t::r=>by
  unfold mX;split
  .simp
  .have h1:=qO f (closing t) r;by_cases hc:closing t=aA
   .have h2:=qO f e r;simp only[if_pos hc,List.length_cons];omega
   .have h2:=qO f e (mX f (closing t) r).2;simp only[if_neg hc,List.length_cons];omega
theorem sG:∀(n f:Nat) (e:ByteArray) (ts:List Tok),ts.length<=n->n<=f->mX f e ts=mX n e ts
 |0,f,e,ts,h,_=>by obtain rfl:ts=[]:=List.eq_nil_of_length_eq_zero (by omega);cases f<;>simp[mX]
 |n+1,0,_,_,_,h=>by omega
 |n+1,f+1,e,[],_,_=>by simp[mX]
 |n+1,f+1,e,t::r,h,hf=>by
  simp only[List.length_cons]at h;have h1:=sG n f (closing t) r (by omega) (by omega);have hl:=qO n (closing t) r;unfold mX;rw[h1];by_cases hc:closing t=aA
  .simp only[if_pos hc,sG n f e r (by omega) (by omega)]
  .simp only[if_neg hc,sG n f e (mX n (closing t) r).2 (by omega) (by omega)]
theorem YN(f:Nat)(e:ByteArray)(ts:List Tok)(h:ts.length<=f):mX f e ts=kids e ts:=sG _ _ _ _ (Nat.le_refl _) h
theorem kJ(e:ByteArray):kids e []=([],[]):=by simp[kids,mX]
theorem Vk(e:ByteArray)(ts:List Tok):(kids e ts).1.length+(kids e ts).2.length<=ts.length:=qO _ _ _
theorem sH(t:Tok)(r:List Tok):(inside t r).1.length+(inside t r).2.length<=r.length:=by
 unfold inside;split
 .simp
 .exact Vk _ _
theorem qP{e:ByteArray}{t:Tok}{r:List Tok}(h:e≠aA/\ay t e=true):kids e (t::r)=([],r):=by simp only[kids,List.length_cons];unfold mX;rw[if_pos h]
theorem kQ{e:ByteArray}{t:Tok}{r:List Tok}(h:¬(e≠aA/\ay t e=true)):kids e (t::r)=(.mk t (inside t r).1::(kids e (inside t r).2).1,(kids e (inside t r).2).2):=by
 have hl:=sH t r;have e1:(if closing t=aA then([],r) else mX r.length (closing t) r)=inside t r:=rfl;rw[<-YN r.length e (inside t r).2 (by omega)];simp only[kids,List.length_cons];conv=>lhs;unfold mX
 rw[if_neg h];rw[e1]
theorem SH(n:Nat):∀(e:ByteArray) (ts:List Tok),ts.length<=n->∃k,k<=ts.length/\(kids e ts).2=ts.drop k:=by
 induction n with
 |zero=>intro e ts h;obtain rfl:ts=[]:=List.eq_nil_of_length_eq_zero (by omega);exact⟨0,by simp,by simp[kJ]⟩
 |succ n ih=>
  intro e ts h;cases ts with
  |nil=>exact⟨0,by simp,by simp[kJ]⟩
  |cons t r=>
   simp only[List.length_cons]at h;by_cases hc:e≠aA/\ay t e=true
   .exact⟨1,by simp,by simp[qP hc]⟩
   .rw[kQ hc];have hi:∃k,k<=r.length/\(inside t r).2=r.drop k:=by
     unfold inside;split
     .exact⟨0,by simp,by simp⟩
     .exact ih _ r (by omega)
    obtain⟨k,hk,hk2⟩:=hi;obtain⟨m,hm,hm2⟩:=ih e (inside t r).2 (by rw[hk2];simp;omega);refine⟨k+m+1,?_,?_⟩
    .rw[hk2]at hm;simp at hm⊢;omega
    .show(kids e (inside t r).2).2=_;rw[hm2,hk2,List.drop_drop];rfl
theorem KW(t:Tok)(r:List Tok):∃k,k<=r.length/\(inside t r).2=r.drop k:=by
 unfold inside;split
 .exact⟨0,by simp,by simp⟩
 .exact SH _ _ r (Nat.le_refl _)
end Go.Proofs.YtlliliddljkbfaaGreatDoor.Sp
namespace Go.Proofs.YtlliliddljkbfaaGreatDoor
set_option maxHeartbeats 64000000
set_option maxRecDepth 100000
open Go.Proofs.Tryz (prog)
open Go.RowKit Sp
theorem uP(B:Nat)(l:List Nd)(v:Value)(w:World)(h:Sl (fun b=>b<B) w v l):
  Calls prog 102 #[v] w fun e w'=>∃v',e=.returned v'/\Sl (fun b=>b<B) w v' (bare l)/\w'=w:=by
 have hl:=h.len;have HS:Hid (Sl (fun b=>b<B) w v l):=h;obtain⟨a,cap,rfl⟩:=h.form;clear h;go_in;go_wp2_with fail;go_loopg[0] l.length (fun g v0 wr=>∃(cur:List Nd) (a:Option Addr) (cap:Nat),v0=.slice a cur.length cap/\g=cur.length/\cur.length<=600/\Aside (Sl (fun b=>b<B) w (.slice a cur.length cap) cur/\aC cur=aC l/\wr=w));case atStart=>exact⟨l,a,cap,rfl,rfl,hl,HS.o,rfl,rfl⟩
 case round=>
  obtain⟨cur,a,cap,rfl,rfl,Cc,hA⟩:=hrel;have HC:Hid (Sl (fun b=>b<B) w (.slice a cur.length cap) cur):=hA.o.1;have HD:Hid (aC cur=aC l):=hA.o.2.1;obtain rfl:=hA.o.2.2;clear hA HS hl;by_cases hx:∃n r,cur=n::r/\n.t.kind=1
  .obtain⟨n,r,rfl,hk⟩:=hx;obtain⟨g,o,rfl,hL,hcap⟩:=HC.o.here (by simp);obtain⟨kv,hN⟩:=hL.node (i:=0) (by simp);have c0:=hN.c0;have HT:Hid (Sl (fun b=>b<B) wr (.slice (some ⟨g,o+4,none⟩) r.length (cap-1)) r):=HC.o.tail;have HD2:Hid (aC r=aC l):=by show _=_;rw[<-HD.o,jm hk]
   have hb:(n.t.kind==1)=true:=by simpa using hk
   clear hN hL hk HC HD;simp only[Nat.zero_mul,Nat.add_zero,List.getElem_cons_zero,List.length_cons]at *;go_wp2_with fail
   .go_roundg r.length;case measure=>omega
    case rel=>have e:r=[]:=List.eq_nil_of_length_eq_zero oo;subst e;exact⟨[],_,_,rfl,rfl,by simp,Sl.iG _ _ _ _,HD2.o,rfl⟩
   .go_roundg r.length;case measure=>omega
    case rel=>exact⟨r,_,_,rfl,rfl,oo,HT.o,HD2.o,rfl⟩
  .have HE:Hid (aC l=cur):=by
    show _=_;rw[<-HD.o];cases cur with
    |nil=>rfl
    |cons n r=>exact jo (fun e=>hx ⟨n,r,rfl,e⟩)
   clear HD;cases cur with
   |nil=>
    clear hx;simp only[List.length_nil]at *;go_wp2_with fail;go_loopg[0] 0 (fun g v0 wq=>v0=.slice a 0 cap/\Aside (wr=wq));case atStart=>exact⟨rfl,rfl⟩
    case round=>obtain⟨rfl,hA⟩:=hrel;obtain rfl:=hA.o;clear hA;go_wp2_with fail;go_ret;exact⟨_,rfl,by unfold bare;rw[HE.o];exact Sl.iG _ _ _ _,rfl⟩
   |cons n r=>
    obtain⟨g,o,rfl,hL,hcap⟩:=HC.o.here (by simp);obtain⟨kv,hN⟩:=hL.node (i:=0) (by simp);have c0:=hN.c0;have hb:(n.t.kind==1)=false:=by simp;exact fun e=>hx ⟨n,r,rfl,e⟩
    clear hN hx;simp only[Nat.zero_mul,Nat.add_zero,List.getElem_cons_zero,List.length_cons]at *;go_wp2_with fail;obtain⟨all,hall⟩:∃all,all=n::r:=⟨_,rfl⟩;have HN:Hid (r.length+1=all.length):=by rw[hall];rfl
    have hal:all.length<=600:=by rw[<-HN.o];exact Cc
    have hac:all.length<=cap:=by rw[<-HN.o];exact hcap
    have HL:Hid (eP (fun b=>b<B) wr all g o):=by rw[hall];exact hL
    have HC2:Hid (Sl (fun b=>b<B) wr (.slice (some ⟨g,o,none⟩) (r.length+1) cap) all):=by rw[hall];exact HC.o
    rw[<-hall]at HE;clear hL HC hall c0 hb;go_loopg[0] all.length (fun g' v0 wq=>∃(j:Nat),j<=all.length/\v0=.slice (some ⟨g,o,none⟩) j cap/\g'=j/\Aside (kG (all.take j)=kG all/\wr=wq));case atStart=>exact⟨all.length,Nat.le_refl _,by rw[<-HN.o],rfl,by simp,rfl⟩
    case round=>
     obtain⟨j,hj,rfl,hjg,hA⟩:=hrel;subst hjg;have HT:Hid (kG (all.take gk)=kG all):=hA.o.1;obtain rfl:=hA.o.2;clear hA;by_cases hj0:gk=0
     .subst hj0;go_wp2_with fail;go_ret;refine⟨_,rfl,?_,rfl⟩;unfold bare;rw[HE.o,<-HT.o];exact Sl.iG _ _ _ _
     .have h1:(0:Int)<(gk:Int):=oo;obtain⟨kv,hN⟩:=HL.o.node (i:=gk-1) oo;have c0:=hN.c0;have e1:all.take gk=all.take (gk-1)++[all[gk-1]]:=by
       conv=>lhs;rw[show gk=gk-1+1 from by omega]
       rw[List.take_succ_eq_append_getElem oo]
      clear hN;obtain⟨x,hxx⟩:∃x,x=all[gk-1]:=⟨_,rfl⟩;rw[<-hxx]at c0 e1;have E1:Hid (all.take gk=all.take (gk-1)++[x]):=e1;clear hxx e1;cases hb:(x.t.kind==1)
      .have HV:Hid (bare l=all.take gk):=by
        show _=_;unfold bare;rw[HE.o,<-HT.o,E1.o,uN (by simpa using hb)]
       go_wp2_with fail;go_ret;refine⟨_,rfl,?_,rfl⟩;rw[HV.o];exact HC2.o.init gk hj
      .have HV:Hid (kG (all.take (gk-1))=kG all):=by
        show _=_;rw[<-HT.o,E1.o,Cb (by simpa using hb)]
       go_wp2_with fail;go_roundg(gk-1);case measure=>omega
       case rel=>exact⟨gk-1,oo,rfl,rfl,HV.o,rfl⟩
theorem mQ(B:Nat)(l:List Nd)(v:Value)(w:World)(h:Sl (fun b=>b<B) w v l):
  Calls prog 59 #[v] w fun e w'=>∃v',e=.returned v'/\Sl (fun b=>b<B) w v' (bare l)/\w'=w:=by
 have hl:=h.len;have HS:Hid (Sl (fun b=>b<B) w v l):=h;obtain⟨a,cap,rfl⟩:=h.form;clear h;go_in;go_wp2_with fail;go_loopg[0] l.length (fun g v0 wr=>∃(cur:List Nd) (a:Option Addr) (cap:Nat),v0=.slice a cur.length cap/\g=cur.length/\cur.length<=600/\Aside (Sl (fun b=>b<B) w (.slice a cur.length cap) cur/\aC cur=aC l/\wr=w));case atStart=>exact⟨l,a,cap,rfl,rfl,hl,HS.o,rfl,rfl⟩
 case round=>
  obtain⟨cur,a,cap,rfl,rfl,Cc,hA⟩:=hrel;have HC:Hid (Sl (fun b=>b<B) w (.slice a cur.length cap) cur):=hA.o.1;have HD:Hid (aC cur=aC l):=hA.o.2.1;obtain rfl:=hA.o.2.2;clear hA HS hl;by_cases hx:∃n r,cur=n::r/\n.t.kind=1
  .obtain⟨n,r,rfl,hk⟩:=hx;obtain⟨g,o,rfl,hL,hcap⟩:=HC.o.here (by simp);obtain⟨kv,hN⟩:=hL.node (i:=0) (by simp);have c0:=hN.c0;have HT:Hid (Sl (fun b=>b<B) wr (.slice (some ⟨g,o+4,none⟩) r.length (cap-1)) r):=HC.o.tail;have HD2:Hid (aC r=aC l):=by show _=_;rw[<-HD.o,jm hk]
   have hb:(n.t.kind==1)=true:=by simpa using hk
   clear hN hL hk HC HD;simp only[Nat.zero_mul,Nat.add_zero,List.getElem_cons_zero,List.length_cons]at *;go_wp2_with fail
   .go_roundg r.length;case measure=>omega
    case rel=>have e:r=[]:=List.eq_nil_of_length_eq_zero oo;subst e;exact⟨[],_,_,rfl,rfl,by simp,Sl.iG _ _ _ _,HD2.o,rfl⟩
   .go_roundg r.length;case measure=>omega
    case rel=>exact⟨r,_,_,rfl,rfl,oo,HT.o,HD2.o,rfl⟩
  .have HE:Hid (aC l=cur):=by
    show _=_;rw[<-HD.o];cases cur with
    |nil=>rfl
    |cons n r=>exact jo (fun e=>hx ⟨n,r,rfl,e⟩)
   clear HD;cases cur with
   |nil=>
    clear hx;simp only[List.length_nil]at *;go_wp2_with fail;go_loopg[0] 0 (fun g v0 wq=>v0=.slice a 0 cap/\Aside (wr=wq));case atStart=>exact⟨rfl,rfl⟩
    case round=>obtain⟨rfl,hA⟩:=hrel;obtain rfl:=hA.o;clear hA;go_wp2_with fail;go_ret;exact⟨_,rfl,by unfold bare;rw[HE.o];exact Sl.iG _ _ _ _,rfl⟩
   |cons n r=>
    obtain⟨g,o,rfl,hL,hcap⟩:=HC.o.here (by simp);obtain⟨kv,hN⟩:=hL.node (i:=0) (by simp);have c0:=hN.c0;have hb:(n.t.kind==1)=false:=by simp;exact fun e=>hx ⟨n,r,rfl,e⟩
    clear hN hx;simp only[Nat.zero_mul,Nat.add_zero,List.getElem_cons_zero,List.length_cons]at *;go_wp2_with fail;obtain⟨all,hall⟩:∃all,all=n::r:=⟨_,rfl⟩;have HN:Hid (r.length+1=all.length):=by rw[hall];rfl
    have hal:all.length<=600:=by rw[<-HN.o];exact Cc
    have hac:all.length<=cap:=by rw[<-HN.o];exact hcap
    have HL:Hid (eP (fun b=>b<B) wr all g o):=by rw[hall];exact hL
    have HC2:Hid (Sl (fun b=>b<B) wr (.slice (some ⟨g,o,none⟩) (r.length+1) cap) all):=by rw[hall];exact HC.o
    rw[<-hall]at HE;clear hL HC hall c0 hb;go_loopg[0] all.length (fun g' v0 wq=>∃(j:Nat),j<=all.length/\v0=.slice (some ⟨g,o,none⟩) j cap/\g'=j/\Aside (kG (all.take j)=kG all/\wr=wq));case atStart=>exact⟨all.length,Nat.le_refl _,by rw[<-HN.o],rfl,by simp,rfl⟩
    case round=>
     obtain⟨j,hj,rfl,hjg,hA⟩:=hrel;subst hjg;have HT:Hid (kG (all.take gk)=kG all):=hA.o.1;obtain rfl:=hA.o.2;clear hA;by_cases hj0:gk=0
     .subst hj0;go_wp2_with fail;go_ret;refine⟨_,rfl,?_,rfl⟩;unfold bare;rw[HE.o,<-HT.o];exact Sl.iG _ _ _ _
     .have h1:(0:Int)<(gk:Int):=oo;obtain⟨kv,hN⟩:=HL.o.node (i:=gk-1) oo;have c0:=hN.c0;have e1:all.take gk=all.take (gk-1)++[all[gk-1]]:=by
       conv=>lhs;rw[show gk=gk-1+1 from by omega]
       rw[List.take_succ_eq_append_getElem oo]
      clear hN;obtain⟨x,hxx⟩:∃x,x=all[gk-1]:=⟨_,rfl⟩;rw[<-hxx]at c0 e1;have E1:Hid (all.take gk=all.take (gk-1)++[x]):=e1;clear hxx e1;cases hb:(x.t.kind==1)
      .have HV:Hid (bare l=all.take gk):=by
        show _=_;unfold bare;rw[HE.o,<-HT.o,E1.o,uN (by simpa using hb)]
       go_wp2_with fail;go_ret;refine⟨_,rfl,?_,rfl⟩;rw[HV.o];exact HC2.o.init gk hj
      .have HV:Hid (kG (all.take (gk-1))=kG all):=by
        show _=_;rw[<-HT.o,E1.o,Cb (by simpa using hb)]
       go_wp2_with fail;go_roundg(gk-1);case measure=>omega
       case rel=>exact⟨gk-1,oo,rfl,rfl,HV.o,rfl⟩
theorem YO(f:Nat):∀(B:Nat) (l:List Nd) (v:Value) (w:World) (_:f<=1000) (_:depth l<=f) (_:Sl (fun b=>b<B) w v l) (_:B<=w.heap.size),
  Calls prog 39 #[v] w fun e w'=>e=.returned (.int .i64 (depth l:Int))/\Below w.heap.size w w':=by
 refine Nat.strongRecOn f ?_;clear f;intro f ih B l v w hf hd h hB;have hl:=h.len;have HS:Hid (Sl (fun b=>b<B) w v l):=h;obtain⟨a,cap,rfl⟩:=h.form;have HD:Hid (depth l<=f):=hd;clear h hd;go_in;go_wp2_with fail;go_loopg[3,4] l.length (fun g v3 v4 wr=>∃(i d:Nat),i+g=l.length/\d<=1000/\v3=.int .i64 (d:Int)/\v4=.int .i64 (i:Int)/\Aside (d=depth (l.take i)/\Below w.heap.size w wr));case atStart=>exact⟨0,0,oo,oo,rfl,rfl,rfl,Below.refl _ _⟩
 case round=>
  obtain⟨i,d,hi,hd,rfl,rfl,hA⟩:=hrel;have H1:Hid (d=depth (l.take i)):=hA.o.1;have HB:Hid (Below w.heap.size w wr):=hA.o.2;clear hA;by_cases hlt:i<l.length
  .have h1:(i:Int)<(l.length:Int):=oo;have qQ:=HS.o.below HB.o hB;obtain⟨g,o,rfl,hL,hcap⟩:=qQ.here (by rintro rfl;simp at hlt);obtain⟨kv,hN⟩:=hL.node (i:=i) hlt;obtain⟨n,hn⟩:∃n,n=l[i]:=⟨_,rfl⟩;have HT:Hid (depth (l.take (i+1))=max d (jS n)):=by
    show _=_;rw[List.take_succ_eq_append_getElem hlt,sF,<-hn,H1.o]
   have HM:Hid (jS n<=depth l):=by rw[hn];exact mP _ _ (List.getElem_mem _)
   rw[<-hn]at hN;have c0:=hN.c0;have c1:=hN.c1;have c2:=hN.c2;have HK:Hid (Sl (fun b=>b<B) wr kv n.kids):=hN.k;have hsz:=HB.o.size;have HN:Hid (lZ (fun b=>b<B) wr n g (o+i*4) kv):=hN;clear hN hL hn qQ H1;go_wp2_with fail;refine pmb (qN n.t _) fun w1 hb1=>?_;have HB1:Hid (Below w.heap.size w w1):=HB.o.trans (hb1.mono hsz);have c3:w1.cell? ⟨g,o+i*4+3,none⟩=some kv:=by rw[hb1.cell (by have:=HN.o.s;show g<_;omega)];exact HN.o.c3
   have l7:Hid (Sl (fun b=>b<B) w1 kv n.kids):=HK.o.below hb1 oo;have hsz1:=HB1.o.size;clear hb1 c0 c1 c2;cases hc:(closing n.t).toList==([]:List UInt8)
   .have hc':¬closing n.t=aA:=by
     rw[aH]at hc;simpa[aA]using hc
    have Ol:Hid (jS n=depth n.kids+1):=mY hc';obtain⟨f',rfl⟩:∃f',f=f'+1:=⟨f-1,by have:=Ol.o;have:=HM.o;have:=HD.o;omega⟩;obtain⟨k,HKe⟩:∃k,Hid (k=depth n.kids):=⟨_,rfl⟩;have hk:k<=1000:=by have:=Ol.o;have:=HM.o;have:=HD.o;have:=HKe.o;omega
    go_wp2_with fail;refine(ih f' oo B n.kids kv _ oo (by have:=Ol.o;have:=HM.o;have:=HD.o;omega) l7.o oo).mono ?_;rw[<-HKe.o];rintro e w2 ⟨rfl,hb2⟩;have HB2:Hid (Below w.heap.size w w2):=HB1.o.trans (hb2.mono hsz1);clear hb2;go_wp2_with fail
    .go_roundg(gk-1);case measure=>omega
     case rel=>exact⟨i+1,k+1,oo,by have:=Ol.o;have:=HM.o;have:=HD.o;have:=HKe.o;omega,by congr 1,by congr 1,by have h3:=HKe.o;rw[HT.o,Ol.o,<-h3];omega,HB2.o⟩
    .go_roundg(gk-1);case measure=>omega
     case rel=>exact⟨i+1,d,oo,oo,rfl,by congr 1,by have h3:=HKe.o;rw[HT.o,Ol.o,<-h3];omega,HB2.o⟩
   .have hc':closing n.t=aA:=by
     rw[aH]at hc;simpa[aA]using hc
    have Ol:Hid (jS n=0):=uO hc';clear hc';go_wp2_with fail;go_roundg(gk-1);case measure=>omega
    case rel=>exact⟨i+1,d,oo,oo,rfl,by congr 1,by rw[HT.o,Ol.o];omega,HB1.o⟩
  .have h1:(l.length:Int)<=(i:Int):=oo;have HV:Hid (d=depth l):=by
    show _=_;rw[H1.o,List.take_of_length_le oo]
   go_wp2_with fail;go_ret;exact⟨wL (by rw[HV.o]),HB.o⟩
end Go.Proofs.YtlliliddljkbfaaGreatDoor
