import Derived.Test.YtlliliddljkbfaaGreatDoorC8
import Derived.Test.YtlliliddljkbfaaGreatDoorC23
import Derived.Deep.DeepCutAuto
import Derived.Deep.Light
namespace Go.Proofs.YtlliliddljkbfaaGreatDoor
set_option maxHeartbeats 64000000
set_option maxRecDepth 100000
open Go.Proofs.Tryz (prog)
open Go.RowKit Sp
def vC(l:List Nd)(i:Nat)(e:Ending):Prop:=
 match gQ (l.drop i)with
 |none=>∃k:Nat,e=.returned (.tuple #[.int .u8 0,.int .i64 (k:Int)])
 |some (c,r)=>∃k:Nat,e=.returned (.tuple #[.int .u8 (c:Int),.int .i64 (k:Int)])/\i<k/\k<=l.length/\l.drop k=r/\0<c/\c<256
theorem yJ{l r:List Nd}{n:Nd}(h:aC l=n::r)(c:UInt8)(hs:dY n (b1 c)=true)(hc:c=62\/c=43\/c=126):gQ l=some (c.toNat,aC r):=by
 have hw:n.t.word=b1 c:=by simp[dY,ay]at hs;exact hs.2
 have hk:n.t.kind=15:=by simp[dY,ay]at hs;exact hs.1
 unfold gQ;rw[h];rcases hc with rfl|rfl|rfl<;>simp[dY,ay,hw,hk,b1]
theorem Py{l r:List Nd}{n:Nd}(h:aC l=n::r)(h1:dY n (b1 62)=false)(h2:dY n (b1 43)=false)(h3:dY n (b1 126)=false):gQ l=if (n::r).length<l.length then some (32,n::r) else none:=by unfold gQ;rw[h];simp[h1,h2,h3]
theorem JU(B:Nat)(l:List Nd)(i:Nat)(v:Value)(w:World)(h:Sl (fun b=>b<B) w v l)(hB:B<=w.heap.size)(hi:i<l.length):
  Calls prog 132 #[v,.int .i64 (i:Int)] w fun e w'=>vC l i e/\Below w.heap.size w w':=by
 have hl:=h.len;have HS:Hid (Sl (fun b=>b<B) w v l):=h;obtain⟨a,cap,rfl⟩:=h.form;clear h;obtain⟨g,o,rfl,hL,hcap⟩:=HS.o.here (by rintro rfl;simp at hi);have HL:Hid (eP (fun b=>b<B) w l g o):=hL;clear hL;go_in;go_wp2_with fail;go_loopg[6] l.length (fun gg v6 wr=>∃k:Nat,k+gg=i+l.length/\i<=k/\k<=l.length/\v6=.int .i64 (k:Int)/\Aside (aC (l.drop i)=aC (l.drop k)/\wr=w));case atStart=>exact⟨i,oo,oo,oo,rfl,rfl,rfl⟩
 case round=>
  obtain⟨k,hk,hik,hkl,rfl,hA⟩:=hrel;have HD:Hid (aC (l.drop i)=aC (l.drop k)):=hA.o.1;obtain rfl:=hA.o.2;clear hA;by_cases hlt:k<l.length
  .have h1:(k:Int)<(l.length:Int):=oo;obtain⟨kv,hN⟩:=HL.o.node (i:=k) hlt;obtain⟨n,hn⟩:∃n,n=l[k]:=⟨_,rfl⟩;have Hdr:Hid (l.drop k=n::l.drop (k+1)):=by show _=_;rw[hn];exact List.drop_eq_getElem_cons hlt
   rw[<-hn]at hN;have HN:Hid (lZ (fun b=>b<B) wr n g (o+k*4) kv):=hN;have c0:=hN.c0;clear hN hn;cases hb:(n.t.kind==1)
   .have HD2:Hid (aC (l.drop i)=n::l.drop (k+1)):=by show _=_;rw[HD.o,Hdr.o];exact jo (by simpa using hb)
    have c1:=HN.o.c1;have c2:=HN.o.c2;have c3:=HN.o.c3;go_wp2_with fail;refine pmb (eU n.t kv _ _) fun w1 hb1=>?_;have N1:Hid (lZ (fun b=>b<B) w1 n g (o+k*4) kv):=HN.o.below (hb1.mono oo);have B1:Hid (Below wr.heap.size wr w1):=hb1;have hs1:=hb1.size;clear hb1 c0 c1 c2 c3;have c0:=N1.o.c0;have c1:=N1.o.c1;have c2:=N1.o.c2;have c3:=N1.o.c3;go_wp2_with fail;refine pmb (eU n.t kv _ _) fun w2 hb1=>?_;have N2:Hid (lZ (fun b=>b<B) w2 n g (o+k*4) kv):=N1.o.below (hb1.mono oo);have B2:Hid (Below wr.heap.size wr w2):=B1.o.trans (hb1.mono hs1);have hs2:=hb1.size;clear hb1 c0 c1 c2 c3 N1 B1;have c0:=N2.o.c0;have c1:=N2.o.c1;have c2:=N2.o.c2;have c3:=N2.o.c3;go_wp2_with fail;refine pmb (eU n.t kv _ _) fun w3 hb1=>?_;have N3:Hid (lZ (fun b=>b<B) w3 n g (o+k*4) kv):=N2.o.below (hb1.mono oo)
    have B3:Hid (Below wr.heap.size wr w3):=B2.o.trans (hb1.mono oo);have hs3:=hb1.size;clear hb1 c0 c1 c2 c3 N2 B2;have L3:Hid (eP (fun b=>b<B) w3 l g o):=HL.o.keep (fun _ hg=>hg) fun q hq=>B3.o.block q oo;cases s1:ay n.t (b1 62)
    .have t1:ay n.t { data:=#[62] } = false:=s1;cases s2:ay n.t (b1 43)
     .have t2:ay n.t { data:=#[43] } = false:=s2;cases s3:ay n.t (b1 126)
      .have t3:ay n.t { data:=#[126] } = false:=s3;have HC:Hid (gQ (l.drop i)=if (n::l.drop (k+1)).length<(l.drop i).length then some (32,n::l.drop (k+1)) else none):=Py HD2.o s1 s2 s3;by_cases hki:i<k
       .have h2:(i:Int)<(k:Int):=oo;go_wp2_with fail;go_ret2
        refine⟨?_,B3.o⟩;unfold vC;rw[HC.o,if_pos (by simp;omega)];exact⟨k,rfl,oo,oo,Hdr.o,oo,oo⟩
       .have h2:(k:Int)<=(i:Int):=oo;go_wp2_with fail;go_ret2
        refine⟨?_,B3.o⟩;unfold vC;rw[HC.o,if_neg (by simp;omega)];exact⟨i,rfl⟩
      .have t3:ay n.t { data:=#[126] } = true:=s3;have HC:Hid (gQ (l.drop i)=some (126,aC (l.drop (k+1)))):=yJ HD2.o 126 s3 (by simp);have hw:n.t.word=⟨#[126]⟩:=by simp[ay]at s3;exact s3.2
       have d1:=N3.o.c1;rw[hw]at d1;clear hw;go_wp2_with fail;go_loopg[6] l.length (fun gg v6 wq=>∃q:Nat,q+gg=k+1+l.length/\k<q/\q<=l.length/\v6=.int .i64 (q:Int)/\Aside (aC (l.drop (k+1))=aC (l.drop q)/\wq=w3));case atStart=>exact⟨k+1,oo,oo,oo,by congr 1,rfl,rfl⟩
       case round=>
        obtain⟨q,hq,hkq,hql,rfl,hA⟩:=hrel;have HE:Hid (aC (l.drop (k+1))=aC (l.drop q)):=hA.o.1;obtain rfl:=hA.o.2;clear hA;by_cases hlq:q<l.length
        .have h3:(q:Int)<(l.length:Int):=oo;obtain⟨kv',hN'⟩:=L3.o.node (i:=q) hlq;obtain⟨n',hn'⟩:∃n',n'=l[q]:=⟨_,rfl⟩;have MJ:Hid (l.drop q=n'::l.drop (q+1)):=by show _=_;rw[hn'];exact List.drop_eq_getElem_cons hlq
         rw[<-hn']at hN';have e0:=hN'.c0;clear hN' hn';cases hb':(n'.t.kind==1)
         .have HF:Hid (aC (l.drop (k+1))=l.drop q):=by show _=_;rw[HE.o,MJ.o];exact jo (by simpa using hb')
          go_wp2_with fail;go_ret2
          refine⟨?_,B3.o⟩;unfold vC;rw[HC.o];exact⟨q,rfl,oo,oo,HF.o.symm,oo,oo⟩
         .have HF:Hid (aC (l.drop (k+1))=aC (l.drop (q+1))):=by show _=_;rw[HE.o,MJ.o];exact jm (by simpa using hb')
          go_wp2_with fail;go_roundg(gk-1);case measure=>omega
          case rel=>exact⟨q+1,oo,oo,oo,by congr 1,HF.o,rfl⟩
        .have h3:(l.length:Int)<=(q:Int):=oo;have HF:Hid (aC (l.drop (k+1))=l.drop q):=by show _=_;rw[HE.o,List.drop_of_length_le oo];rfl
         go_wp2_with fail;go_ret2
         refine⟨?_,B3.o⟩;unfold vC;rw[HC.o];exact⟨q,rfl,oo,oo,HF.o.symm,oo,oo⟩
     .have t2:ay n.t { data:=#[43] } = true:=s2;have HC:Hid (gQ (l.drop i)=some (43,aC (l.drop (k+1)))):=yJ HD2.o 43 s2 (by simp);have hw:n.t.word=⟨#[43]⟩:=by simp[ay]at s2;exact s2.2
      have d1:=N3.o.c1;rw[hw]at d1;clear hw;go_wp2_with fail;go_loopg[6] l.length (fun gg v6 wq=>∃q:Nat,q+gg=k+1+l.length/\k<q/\q<=l.length/\v6=.int .i64 (q:Int)/\Aside (aC (l.drop (k+1))=aC (l.drop q)/\wq=w3));case atStart=>exact⟨k+1,oo,oo,oo,by congr 1,rfl,rfl⟩
      case round=>
       obtain⟨q,hq,hkq,hql,rfl,hA⟩:=hrel;have HE:Hid (aC (l.drop (k+1))=aC (l.drop q)):=hA.o.1;obtain rfl:=hA.o.2;clear hA;by_cases hlq:q<l.length
       .have h3:(q:Int)<(l.length:Int):=oo;obtain⟨kv',hN'⟩:=L3.o.node (i:=q) hlq;obtain⟨n',hn'⟩:∃n',n'=l[q]:=⟨_,rfl⟩;have MJ:Hid (l.drop q=n'::l.drop (q+1)):=by show _=_;rw[hn'];exact List.drop_eq_getElem_cons hlq
        rw[<-hn']at hN';have e0:=hN'.c0;clear hN' hn';cases hb':(n'.t.kind==1)
        .have HF:Hid (aC (l.drop (k+1))=l.drop q):=by show _=_;rw[HE.o,MJ.o];exact jo (by simpa using hb')
         go_wp2_with fail;go_ret2
         refine⟨?_,B3.o⟩;unfold vC;rw[HC.o];exact⟨q,rfl,oo,oo,HF.o.symm,oo,oo⟩
        .have HF:Hid (aC (l.drop (k+1))=aC (l.drop (q+1))):=by show _=_;rw[HE.o,MJ.o];exact jm (by simpa using hb')
         go_wp2_with fail;go_roundg(gk-1);case measure=>omega
         case rel=>exact⟨q+1,oo,oo,oo,by congr 1,HF.o,rfl⟩
       .have h3:(l.length:Int)<=(q:Int):=oo;have HF:Hid (aC (l.drop (k+1))=l.drop q):=by show _=_;rw[HE.o,List.drop_of_length_le oo];rfl
        go_wp2_with fail;go_ret2
        refine⟨?_,B3.o⟩;unfold vC;rw[HC.o];exact⟨q,rfl,oo,oo,HF.o.symm,oo,oo⟩
    .have t1:ay n.t { data:=#[62] } = true:=s1;have HC:Hid (gQ (l.drop i)=some (62,aC (l.drop (k+1)))):=yJ HD2.o 62 s1 (by simp);have hw:n.t.word=⟨#[62]⟩:=by simp[ay]at s1;exact s1.2
     have d1:=N3.o.c1;rw[hw]at d1;clear hw;go_wp2_with fail;go_loopg[6] l.length (fun gg v6 wq=>∃q:Nat,q+gg=k+1+l.length/\k<q/\q<=l.length/\v6=.int .i64 (q:Int)/\Aside (aC (l.drop (k+1))=aC (l.drop q)/\wq=w3));case atStart=>exact⟨k+1,oo,oo,oo,by congr 1,rfl,rfl⟩
     case round=>
      obtain⟨q,hq,hkq,hql,rfl,hA⟩:=hrel;have HE:Hid (aC (l.drop (k+1))=aC (l.drop q)):=hA.o.1;obtain rfl:=hA.o.2;clear hA;by_cases hlq:q<l.length
      .have h3:(q:Int)<(l.length:Int):=oo;obtain⟨kv',hN'⟩:=L3.o.node (i:=q) hlq;obtain⟨n',hn'⟩:∃n',n'=l[q]:=⟨_,rfl⟩;have MJ:Hid (l.drop q=n'::l.drop (q+1)):=by show _=_;rw[hn'];exact List.drop_eq_getElem_cons hlq
       rw[<-hn']at hN';have e0:=hN'.c0;clear hN' hn';cases hb':(n'.t.kind==1)
       .have HF:Hid (aC (l.drop (k+1))=l.drop q):=by show _=_;rw[HE.o,MJ.o];exact jo (by simpa using hb')
        go_wp2_with fail;go_ret2
        refine⟨?_,B3.o⟩;unfold vC;rw[HC.o];exact⟨q,rfl,oo,oo,HF.o.symm,oo,oo⟩
       .have HF:Hid (aC (l.drop (k+1))=aC (l.drop (q+1))):=by show _=_;rw[HE.o,MJ.o];exact jm (by simpa using hb')
        go_wp2_with fail;go_roundg(gk-1);case measure=>omega
        case rel=>exact⟨q+1,oo,oo,oo,by congr 1,HF.o,rfl⟩
      .have h3:(l.length:Int)<=(q:Int):=oo;have HF:Hid (aC (l.drop (k+1))=l.drop q):=by show _=_;rw[HE.o,List.drop_of_length_le oo];rfl
       go_wp2_with fail;go_ret2
       refine⟨?_,B3.o⟩;unfold vC;rw[HC.o];exact⟨q,rfl,oo,oo,HF.o.symm,oo,oo⟩
   .have HD2:Hid (aC (l.drop i)=aC (l.drop (k+1))):=by show _=_;rw[HD.o,Hdr.o];exact jm (by simpa using hb)
    go_wp2_with fail;go_roundg(gk-1);case measure=>omega
    case rel=>exact⟨k+1,oo,oo,oo,by congr 1,HD2.o,rfl⟩
  .have h1:(l.length:Int)<=(k:Int):=oo;have HC:Hid (gQ (l.drop i)=some (32,[])):=by
    show _=_;unfold gQ;rw[HD.o,List.drop_of_length_le oo];simp only[aC];rw[if_neg (by simp;omega)]
   have h2:(i:Int)<(k:Int):=oo;go_wp2_with fail;go_ret2
   refine⟨?_,Below.refl _ _⟩;unfold vC;rw[HC.o];exact⟨k,rfl,oo,oo,List.drop_of_length_le oo,oo,oo⟩
def dZ(k:Nat)(nm h v:ByteArray)(lv:Value)(p:Nat):Value:=.agg #[.int .u8 (k:Int),.string nm,.string h,.string v,lv,.int .i64 (p:Int)]
def Ih(k:Nat)(nm h v:ByteArray)(lv:Value)(p:Nat):List Value:=[.int .u8 (k:Int),.string nm,.string h,.string v,lv,.int .i64 (p:Int)]
def lX(D:ug Simple):ug Step:=fun S w s cs=>∃av,cs=[.int .u8 (s.1:Int),av]/\SG D 6 S w av s.2
def CX(D:ug Simple):ug (List Step):=One (lX D) 2
def bP:Nat->ug Simple
 |0=>fun _ _ s cs=>match s with|.mk k nm h v l p=>l=[]/\∃a c,cs=Ih k nm h v (.slice a 0 c) p
 |n+1=>fun S w s cs=>match s with|.mk k nm h v l p=>∃lv,cs=Ih k nm h v lv p/\SG (CX (bP n)) 1 S w lv l
theorem lX.fair{D:ug Simple}(h:Fair D):Fair (lX D):=by rintro S S' w w' x cs hS hw ⟨av,h1,h2⟩;exact⟨av,h1,h2.keep h hS hw⟩
theorem lX.sized(D:ug Simple):qG (lX D) 2:=by rintro S w x cs ⟨v,rfl,_⟩;rfl
theorem bP.fair:∀n,Fair (bP n)
 |0=>by rintro S S' w w' ⟨k,nm,h,v,l,p⟩ cs hS hw hh;exact hh
 |n+1=>by rintro S S' w w' ⟨k,nm,h,v,l,p⟩ cs hS hw ⟨lv,h1,h2⟩;exact⟨lv,h1,h2.keep (One.fair (lX.fair (bP.fair n))) hS hw⟩
theorem bP.sized:∀n,qG (bP n) 6
 |0=>by rintro S w ⟨k,nm,h,v,l,p⟩ cs ⟨_,a,c,rfl⟩;rfl
 |n+1=>by rintro S w ⟨k,nm,h,v,l,p⟩ cs ⟨lv,rfl,_⟩;rfl
theorem bP.plain(n:Nat)(S:Nat->Prop)(w:World)(k:Nat)(nm h v:ByteArray)(p:Nat):bP n S w (.mk k nm h v [] p) (Ih k nm h v (.slice none 0 0) p):=by
 cases n with
 |zero=>exact⟨rfl,none,0,rfl⟩
 |succ n=>exact⟨.slice none 0 0,rfl,SG.iG _ _ _ _ _ _⟩
theorem Sl.TR{S:Nat->Prop}{w:World}{a:Option Addr}{n cap:Nat}{x:Nd}{r:List Nd}(h:Sl S w (.slice a n cap) (x::r)):
  ∃a',(∀W:World,(Instr.slice 59 (.slice a (r.length+1) cap) (some (.int .i64 1)) none none).run prog W=.ok (.slice a' r.length (cap-1)) W)/\Sl S w (.slice a' r.length (cap-1)) r:=by
 obtain⟨iT,h1,_,h3,_⟩:=pV;refine⟨if cap=1 then a else a.map (·.add (1*4)),fun W=>?_,?_⟩
 .rw[run_slice_l (P:=prog) W 59 a (r.length+1) cap Tryz.underlying59 .i64 1 oo oo];have e:prog.elem 59=134:=by kernel_rfl
  simp[sizeOf,typeInfo,e,h1,h3,sliced,Result.andThen]
 .have:=h.cut 1 (r.length+1) oo (by simp);simpa[sliced]using this
def aY:Nat->List Nd->Option fC
 |0=>fun _=>none
 |f+1=>ny f
theorem JV(f:Nat)(l:List Nd):ny f l=tX (aY f) l:=by cases f<;>rfl
def qm(f:Nat)(n:Nd)(w w':World)(e:Ending):Prop:=
 match aK (aY f) n with
 |none=>∃k nm h v a m c p,e=.returned (.tuple #[dZ k nm h v (.slice a m c) p,.bool false])
 |some s=>∃k nm h v lv p,e=.returned (.tuple #[dZ k nm h v lv p,.bool true])/\bP f (vV w.heap.size w') w' s (Ih k nm h v lv p)
def Fb(f:Nat)(l:List Nd)(w w':World)(e:Ending):Prop:=
 match ny f l with
 |none=>e=.returned (.tuple #[.slice none 0 0,.bool false])
 |some ss=>∃sv,e=.returned (.tuple #[sv,.bool true])/\SG (CX (bP f)) 1 (vV w.heap.size w') w' sv ss
def JW(f:Nat):Prop:=∀(B:Nat) (l:List Nd) (v:Value) (w:World),depth l<=f->Sl (fun b=>b<B) w v l->B<=w.heap.size->Calls prog 40 #[v] w fun e w'=>Fb f l w w' e/\Below w.heap.size w w'
def Ah(nm how:ByteArray)(q:Nd)(l3:List Nd):Option Simple:=
 match l3 with
 |[v]=>if dY q (b1 61)=true/\(v.t.kind=14\/v.t.kind=2) then some (.mk 91 nm (how++b1 61) v.t.word [] 0) else none
 |_=>none
def Ry(nm how:ByteArray)(l2:List Nd):Option Simple:=
 match l2 with
 |[]=>none
 |q::r2=>Ah nm how q (bare r2)
abbrev tilde(m:Nd):Prop:=m.t.word=b1 126\/m.t.word=b1 94\/m.t.word=b1 36\/m.t.word=b1 42
def Wv(nm:ByteArray)(l1:List Nd):Option Simple:=
 match l1 with
 |[]=>some (Simple.of 91 nm)
 |m::r1=>if m.t.kind≠15 then none else if tilde m then Ry nm m.t.word r1 else Ry nm aA (m::r1)
theorem TS{n:Nd}{r:List Nd}(h:¬n.t.kind=14):dh (n::r)=none:=by unfold dh;exact if_pos h
theorem Pz{n:Nd}{r:List Nd}(h:n.t.kind=14):dh (n::r)=Wv n.t.word (bare r):=by
 unfold dh Wv;simp only;rw[if_neg (by simp[h])];cases bare r with
 |nil=>rfl
 |cons m r1=>
  simp only;by_cases hm:m.t.kind≠15
  .rw[if_pos hm,if_pos hm]
  .rw[if_neg hm,if_neg hm];by_cases ht:tilde m
   .rw[if_pos ht];unfold tilde at ht;rw[if_pos ht,if_pos ht];cases r1<;>rfl
   .rw[if_neg ht];unfold tilde at ht;rw[if_neg ht,if_neg ht];rfl
theorem MK{nm how:ByteArray}{q:Nd}{l:List Nd}(h:dY q (b1 61)=false):Ah nm how q l=none:=by
 unfold Ah;split
 .rw[if_neg (by simp[h])]
 .rfl
theorem Fe{nm how:ByteArray}{q:Nd}{l:List Nd}(h:¬ ∃v,l=[v]):Ah nm how q l=none:=by
 unfold Ah;split
 .exact absurd ⟨_,rfl⟩ h
 .rfl
def adg(l:List Nd)(e:Ending):Prop:=
 (dh l=none/\e=.returned (.tuple #[dZ 0 aA aA aA (.slice none 0 0) 0,.bool false])) \/
 ∃nm h v,dh l=some (.mk 91 nm h v [] 0)/\e=.returned (.tuple #[dZ 91 nm h v (.slice none 0 0) 0,.bool true])
section
def SB(w:World)(g:Nat)(a b c d e f:Value):Prop:=w.heap[g]?=some (.cells #[a,b,c,d,e,f] 194 (0,0))
section
variable {w w':World} {g:Nat} {a b c d e f:Value}
theorem SB.lt(h:SB w g a b c d e f):g<w.heap.size:=(Array.getElem?_eq_some_iff.1 h).1
theorem SB.cs(h:SB w g a b c d e f):w.cell? ⟨g,0,none⟩=some a/\w.cell? ⟨g,1,none⟩=some b/\w.cell? ⟨g,2,none⟩=some c/\w.cell? ⟨g,3,none⟩=some d/\w.cell? ⟨g,4,none⟩=some e/\w.cell? ⟨g,5,none⟩=some f:=by refine⟨?_,?_,?_,?_,?_,?_⟩<;>(unfold World.cell?;rw[h];rfl)
theorem SB.fz(h:SB w g a b c d e f)(o:Nat):w.frozen? ⟨g,o,none⟩=false:=by unfold World.frozen?;rw[h];rfl
theorem SB.keep(h:SB w g a b c d e f)(e':w'.heap[g]?=w.heap[g]?):SB w' g a b c d e f:=by unfold SB;rw[e'];exact h
theorem SB.below(h:SB w g a b c d e f)(hb:Below w.heap.size w w'):SB w' g a b c d e f:=h.keep (hb.block g h.lt)
theorem SB.alloc(h:SB w g a b c d e f)(o:Obj):SB (w.alloc o) g a b c d e f:=h.keep (Below.heap_alloc _ _ _ h.lt)
theorem SB.set2(h:SB w g a b c d e f)(x:Value):SB (w.setCell ⟨g,2,none⟩ x) g a b x d e f:=by have hl:=h.lt;unfold SB at h⊢;simp only[World.setCell,Array.getElem?_modify,h];simp
end
def abz(w:World)(g:Nat)(a b c d e f:Value):World:=(((((w.setCell ⟨g,0,none⟩ a).setCell ⟨g,1,none⟩ b).setCell ⟨g,2,none⟩ c).setCell ⟨g,3,none⟩ d).setCell ⟨g,4,none⟩ e).setCell ⟨g,5,none⟩ f
theorem bH{B g:Nat}{x w:World}(h:Below B x w)(hg:B<=g)(a b c d e f:Value):Below B x (abz w g a b c d e f):=(((((h.setCell hg a).setCell hg b).setCell hg c).setCell hg d).setCell hg e).setCell hg f
theorem abA(B:Nat)(l:List Nd)(v:Value)(w:World)(h:Sl (fun b=>b<B) w v l)(hB:B<=w.heap.size):
  Calls prog 200 #[v] w fun e w'=>adg l e/\Below w.heap.size w w':=by
 have hl:=h.len;have HS:Hid (Sl (fun b=>b<B) w v l):=h;obtain⟨a,cap,rfl⟩:=h.form;clear h;have W0:Hid (Below w.heap.size w (w.alloc (.cells #[.int .u8 0,.string ⟨#[]⟩,.string ⟨#[]⟩,.string ⟨#[]⟩,.slice none 0 0,.int .i64 0] 194))):=(Below.refl _ _).alloc nl _;have R0:Hid (SB (w.alloc (.cells #[.int .u8 0,.string ⟨#[]⟩,.string ⟨#[]⟩,.string ⟨#[]⟩,.slice none 0 0,.int .i64 0] 194)) w.heap.size (.int .u8 0) (.string ⟨#[]⟩) (.string ⟨#[]⟩) (.string ⟨#[]⟩) (.slice none 0 0) (.int .i64 0)):=heap_alloc_new w _;cases l with
 |nil=>simp only[List.length_nil]at *;obtain⟨r0,r1,r2',r3,r4,r5⟩:=R0.o.cs;go_in;go_wp2_with fail;refine bodyPost_ret (v:=.tuple #[dZ 0 aA aA aA (.slice none 0 0) 0,.bool false]) (by simp[results,Tryz.results200,go_sem,dZ,aA]) rfl ?_;exact⟨.inl ⟨rfl,rfl⟩,W0.o⟩
 |cons n r=>
  obtain⟨g,o,rfl,hL,hcap⟩:=HS.o.here (by simp);obtain⟨kv,hN⟩:=hL.node (i:=0) (by simp);have hgB:g<B:=hN.s;obtain⟨c0,c1⟩:_/\_:=⟨hN.c0,hN.c1⟩;have hgw:g<w.heap.size:=oo;obtain⟨a1,hsl1,hS1⟩:=HS.o.TR;simp only[Nat.zero_mul,Nat.add_zero,List.getElem_cons_zero,List.length_cons]at *;clear hL hN;have hz:((r.length:Int)+1==0)=false:=by simp;omega
  cases k14:(n.t.kind==14)
  .have HV:Hid (dh (n::r)=none):=by
    exact TS (by simpa using k14)
   have n14:(n.t.kind != 14)=true:=by simpa using k14
   go_in;go_wp2_with fail;refine bodyPost_ret (v:=.tuple #[dZ 0 aA aA aA (.slice none 0 0) 0,.bool false]) (by simp[results,Tryz.results200,go_sem,dZ,aA]) rfl ?_;exact⟨.inl ⟨HV.o,rfl⟩,W0.o⟩
  .have E14:Hid (n.t.kind=14):=by show _=_;simpa using k14
   have n14:(n.t.kind != 14)=false:=by simpa using k14
   obtain⟨l,Hl⟩:∃l,Hid (n::r=l):=⟨_,hid rfl⟩;rw[Hl.o];have W2:Hid (Below w.heap.size w ((w.alloc (.cells #[.int .u8 0,.string ⟨#[]⟩,.string ⟨#[]⟩,.string ⟨#[]⟩,.slice none 0 0,.int .i64 0] 194)).alloc (.cells #[.int .u8 91,.string n.t.word,.string ⟨#[]⟩,.string ⟨#[]⟩,.slice none 0 0,.int .i64 0] 194))):=W0.o.alloc (by simp) _;have R2:Hid (SB ((w.alloc (.cells #[.int .u8 0,.string ⟨#[]⟩,.string ⟨#[]⟩,.string ⟨#[]⟩,.slice none 0 0,.int .i64 0] 194)).alloc (.cells #[.int .u8 91,.string n.t.word,.string ⟨#[]⟩,.string ⟨#[]⟩,.slice none 0 0,.int .i64 0] 194)) w.heap.size (.int .u8 0) (.string ⟨#[]⟩) (.string ⟨#[]⟩) (.string ⟨#[]⟩) (.slice none 0 0) (.int .i64 0)):=R0.o.alloc _
   have S2:Hid (SB ((w.alloc (.cells #[.int .u8 0,.string ⟨#[]⟩,.string ⟨#[]⟩,.string ⟨#[]⟩,.slice none 0 0,.int .i64 0] 194)).alloc (.cells #[.int .u8 91,.string n.t.word,.string ⟨#[]⟩,.string ⟨#[]⟩,.slice none 0 0,.int .i64 0] 194)) (w.heap.size+1) (.int .u8 91) (.string n.t.word) (.string ⟨#[]⟩) (.string ⟨#[]⟩) (.slice none 0 0) (.int .i64 0)):=by
    have h:=heap_alloc_new (w.alloc (.cells #[.int .u8 0,.string ⟨#[]⟩,.string ⟨#[]⟩,.string ⟨#[]⟩,.slice none 0 0,.int .i64 0] 194)) (.cells #[.int .u8 91,.string n.t.word,.string ⟨#[]⟩,.string ⟨#[]⟩,.slice none 0 0,.int .i64 0] 194);have e:(w.alloc (.cells #[.int .u8 0,.string ⟨#[]⟩,.string ⟨#[]⟩,.string ⟨#[]⟩,.slice none 0 0,.int .i64 0] 194)).heap.size=w.heap.size+1:=by simp
    rw[e]at h;exact h
   have qQ:Hid (Sl (fun b=>b<B) ((w.alloc (.cells #[.int .u8 0,.string ⟨#[]⟩,.string ⟨#[]⟩,.string ⟨#[]⟩,.slice none 0 0,.int .i64 0] 194)).alloc (.cells #[.int .u8 91,.string n.t.word,.string ⟨#[]⟩,.string ⟨#[]⟩,.slice none 0 0,.int .i64 0] 194)) (.slice a1 r.length (cap-1)) r):=hS1.below W2.o hB;clear hS1 W0 R0;go_in;go_wp2_with fail;refine(mQ B r _ _ qQ.o).mono ?_;rintro e wq ⟨v1,rfl,hS,hwq⟩;rw[hwq];clear hwq wq;have L1:Hid (Sl (fun b=>b<B) ((w.alloc (.cells #[.int .u8 0,.string ⟨#[]⟩,.string ⟨#[]⟩,.string ⟨#[]⟩,.slice none 0 0,.int .i64 0] 194)).alloc (.cells #[.int .u8 91,.string n.t.word,.string ⟨#[]⟩,.string ⟨#[]⟩,.slice none 0 0,.int .i64 0] 194)) v1 (bare r)):=hS
   generalize((w.alloc (.cells #[.int .u8 0,.string ⟨#[]⟩,.string ⟨#[]⟩,.string ⟨#[]⟩,.slice none 0 0,.int .i64 0] 194)).alloc (.cells #[.int .u8 91,.string n.t.word,.string ⟨#[]⟩,.string ⟨#[]⟩,.slice none 0 0,.int .i64 0] 194))=w2 at *;clear hS qQ hsl1 c0 c1;obtain⟨l1,Hl1⟩:∃l1,Hid (bare r=l1):=⟨_,hid rfl⟩;rw[Hl1.o]at L1;have HT:Hid (dh l=Wv n.t.word l1):=by show _=_;rw[<-Hl.o,Pz E14.o,Hl1.o]
   clear Hl E14;cases l1 with
   |nil=>obtain⟨a1',c1',rfl⟩:=L1.o.form;obtain⟨r0,r1,r2',r3,r4,r5⟩:=R2.o.cs;obtain⟨s0,s1,s2,s3,s4,s5⟩:=S2.o.cs;have yK:=R2.o.fz 0;have yL:=R2.o.fz 1;have yM:=R2.o.fz 2;have yN:=R2.o.fz 3;have yO:=R2.o.fz 4;have yP:=R2.o.fz 5;go_wp2_with fail;refine bodyPost_ret (v:=.tuple #[dZ 91 n.t.word aA aA (.slice none 0 0) 0,.bool true]) (by simp[results,Tryz.results200,go_sem,dZ,aA,r0,r1,r2',r3,r4,r5]) rfl ?_;exact⟨.inr ⟨_,_,_,HT.o,rfl⟩,bH W2.o nl _ _ _ _ _ _⟩
   |cons m r1=>
    have hl1:=L1.o.len;simp only[List.length_cons]at hl1;obtain⟨gm,om,km,c1',rfl,Pq,hcm⟩:=L1.o.head;obtain⟨m0,m1,m2,m3⟩:_/\_/\_/\_:=⟨Pq.c0,Pq.c1,Pq.c2,Pq.c3⟩;have hgm:gm<w.heap.size:=by have:gm<B:=Pq.s;omega
    have hmw:m.t.word.size<=4000000:=Pq.ok.word;clear Pq;have hzm:((r1.length:Int)+1==0)=false:=by simp;omega
    cases k15:(m.t.kind==15)
    .have HV:Hid (dh l=none):=by
      show _=_;rw[HT.o];exact if_pos (by simpa using k15)
     have n15:(m.t.kind != 15)=true:=by simpa using k15
     obtain⟨r0,r1',r2',r3,r4,r5⟩:=R2.o.cs;have yK:=R2.o.fz 0;have yL:=R2.o.fz 1;have yM:=R2.o.fz 2;have yN:=R2.o.fz 3;have yO:=R2.o.fz 4;have yP:=R2.o.fz 5;go_wp2_with fail;refine bodyPost_ret (v:=.tuple #[dZ 0 aA aA aA (.slice none 0 0) 0,.bool false]) (by simp[results,Tryz.results200,go_sem,dZ,aA,r0,r1',r2',r3,r4,r5]) rfl ?_;exact⟨.inl ⟨HV.o,rfl⟩,bH W2.o nl _ _ _ _ _ _⟩
    .have E15:Hid (m.t.kind=15):=by show _=_;simpa using k15
     have n15:(m.t.kind != 15)=false:=by simpa using k15
     by_cases hh:tilde m
     .have HT1:Hid (dh l=Ry n.t.word m.t.word r1):=by
       show _=_;rw[HT.o];show(if _ then _ else _)=_;rw[if_neg (by simp[E15.o]),if_pos hh]
      have hh':((m.t.word.toList==[126])=true)\/((m.t.word.toList==[126])=false/\(m.t.word.toList==[94])=true)\/((m.t.word.toList==[126])=false/\(m.t.word.toList==[94])=false/\(m.t.word.toList==[36])=true)\/((m.t.word.toList==[126])=false/\(m.t.word.toList==[94])=false/\(m.t.word.toList==[36])=false/\(m.t.word.toList==[42])=true):=by simp only[aH];rcases hh with e|e|e|e<;>simp[e,b1]
      clear hh HT E15;go_upto_region 10 with fail
      go_cut [57] (fun s57 wx=>s57=.bool true/\wx=w2);case first=>rcases hh' with x1|⟨x1,x2⟩|⟨x1,x2,x3⟩|⟨x1,x2,x3,x4⟩;all_goals(go_wp2_with fail;go_meet;exact⟨rfl,rfl⟩)
      case rest=>
      obtain⟨rfl,rfl⟩:=hcut;clear hh';obtain⟨am,adh,hSm⟩:=L1.o.TR;obtain⟨s0,s1,s2,s3,s4,s5⟩:=S2.o.cs;have sf2:=S2.o.fz 2;have B5:Hid (Below w.heap.size w (wc.setCell ⟨w.heap.size+1,2,none⟩ (.string m.t.word))):=W2.o.setCell (by show w.heap.size<=w.heap.size+1;omega) _;have R5:Hid (SB (wc.setCell ⟨w.heap.size+1,2,none⟩ (.string m.t.word)) w.heap.size (.int .u8 0) (.string ⟨#[]⟩) (.string ⟨#[]⟩) (.string ⟨#[]⟩) (.slice none 0 0) (.int .i64 0)):=R2.o.keep (Below.heap_setCell _ _ _ _ (by show w.heap.size≠w.heap.size+1;omega));have S5:Hid (SB (wc.setCell ⟨w.heap.size+1,2,none⟩ (.string m.t.word)) (w.heap.size+1) (.int .u8 91) (.string n.t.word) (.string m.t.word) (.string ⟨#[]⟩) (.slice none 0 0) (.int .i64 0)):=S2.o.set2 _
      have L5:Hid (Sl (fun b=>b<B) (wc.setCell ⟨w.heap.size+1,2,none⟩ (.string m.t.word)) (.slice am r1.length (c1'-1)) r1):=hSm.keep (fun _ hg=>hg) fun q hq=>Below.heap_setCell _ _ _ _ (by show q≠w.heap.size+1;omega);clear R2 S2 W2 hSm L1 m0 m1 m2 m3;cases r1 with
      |nil=>have HV:Hid (dh l=none):=HT1.o;obtain⟨r0,r1',r2',r3,r4,r5⟩:=R5.o.cs;have yK:=R5.o.fz 0;have yL:=R5.o.fz 1;have yM:=R5.o.fz 2;have yN:=R5.o.fz 3;have yO:=R5.o.fz 4;have yP:=R5.o.fz 5;simp only[List.length_nil,Nat.zero_add]at adh⊢;go_wp2_with fail;refine bodyPost_ret (v:=.tuple #[dZ 0 aA aA aA (.slice none 0 0) 0,.bool false]) (by simp[results,Tryz.results200,go_sem,dZ,aA,r0,r1',r2',r3,r4,r5]) rfl ?_;exact⟨.inl ⟨HV.o,rfl⟩,bH B5.o nl _ _ _ _ _ _⟩
      |cons q r2=>
       simp only[List.length_cons]at adh L5 hl1⊢;have L2:Hid (Sl (fun b=>b<B) (wc.setCell ⟨w.heap.size+1,2,none⟩ (.string m.t.word)) (.slice am (r2.length+1) (c1'-1)) (q::r2)):=L5.o;clear L5;obtain⟨g2,o2,kq,c2,ham,hNq,hcq⟩:=L2.o.head;injection ham with aek ael aem
       subst aek;obtain⟨q0,q1,q2,q3⟩:_/\_/\_/\_:=⟨hNq.c0,hNq.c1,hNq.c2,hNq.c3⟩;have hgq:g2<w.heap.size:=by have:g2<B:=hNq.s;omega
       have hzq:((r2.length:Int)+1==0)=false:=by simp;omega
       clear hNq ael aem;go_wp2_with fail;refine pmb (eU q.t kq _ _) fun w6 hb6=>?_;have B6:Hid (Below w.heap.size w w6):=B5.o.trans (hb6.mono B5.o.size);have R6:Hid (SB w6 w.heap.size (.int .u8 0) (.string ⟨#[]⟩) (.string ⟨#[]⟩) (.string ⟨#[]⟩) (.slice none 0 0) (.int .i64 0)):=R5.o.below hb6;have S6:Hid (SB w6 (w.heap.size+1) (.int .u8 91) (.string n.t.word) (.string m.t.word) (.string ⟨#[]⟩) (.slice none 0 0) (.int .i64 0)):=S5.o.below hb6;have L6:Hid (Sl (fun b=>b<B) w6 (.slice (some ⟨g2,o2,none⟩) (r2.length+1) (c1'-1)) (q::r2)):=L2.o.below hb6 (by have:=B5.o.size;omega);clear hb6 q0 q1 q2 q3 L2 R5 S5 B5;obtain⟨a3,abB,hS3⟩:=L6.o.TR;have Om:Hid (Sl (fun b=>b<B) w6 (.slice a3 r2.length ((c1'-1)-1)) r2):=hS3;clear hS3;go_wp2_with fail;refine(mQ B r2 _ w6 Om.o).mono ?_;rintro e wq ⟨v3,rfl,hS4,rfl⟩
       have L4:Hid (Sl (fun b=>b<B) wq v3 (bare r2)):=hS4;clear hS4 abB Om;obtain⟨l3,Hl3⟩:∃l3,Hid (bare r2=l3):=⟨_,hid rfl⟩;rw[Hl3.o]at L4;have HT2:Hid (dh l=Ah n.t.word m.t.word q l3):=by show _=_;rw[HT1.o];show Ah _ _ _ _=_;rw[Hl3.o]
       have yK:=R6.o.fz 0;have yL:=R6.o.fz 1;have yM:=R6.o.fz 2;have yN:=R6.o.fz 3;have yO:=R6.o.fz 4;have yP:=R6.o.fz 5;have sf2:=S6.o.fz 2;have sf3:=S6.o.fz 3;obtain⟨r0,r1,r2',r3,r4,r5⟩:=R6.o.cs;obtain⟨s0,s1,s2,s3,s4,s5⟩:=S6.o.cs;cases hq:ay q.t (b1 61)
       .have tq:ay q.t { data:=#[61] } = false:=hq;have HV:Hid (dh l=none):=by
         show _=_;rw[HT2.o];exact MK hq
        obtain⟨a4,c4,rfl⟩:=L4.o.form;go_wp2_with fail;refine bodyPost_ret (v:=.tuple #[dZ 0 aA aA aA (.slice none 0 0) 0,.bool false]) (by simp[results,Tryz.results200,go_sem,dZ,aA,r0,r1,r2',r3,r4,r5]) rfl ?_;exact⟨.inl ⟨HV.o,rfl⟩,bH B6.o nl _ _ _ _ _ _⟩
       .have tq:ay q.t { data:=#[61] } = true:=hq;by_cases YA:∃v,l3=[v]
        .obtain⟨v,rfl⟩:=YA;obtain⟨g4,o4,kv4,c4,rfl,rC,hc4⟩:=L4.o.head;have hgs:g4<w.heap.size:=by have:g4<B:=rC.s;omega
         obtain⟨q0,q1⟩:_/\_:=⟨rC.c0,rC.c1⟩;clear rC;by_cases hk:v.t.kind=14\/v.t.kind=2
         .have HV:Hid (dh l=some (.mk 91 n.t.word (m.t.word++b1 61) v.t.word [] 0)):=by
           show _=_;rw[HT2.o];exact if_pos ⟨hq,hk⟩
          have hk':(v.t.kind != 14)=false\/((v.t.kind != 14)=true/\(v.t.kind != 2)=false):=by
           by_cases h:v.t.kind=14
           .exact .inl (by simpa using h)
           .exact .inr ⟨by simpa using h,by rcases hk with e|e;exact absurd e h;simpa using e⟩
          clear hk;have hz3:(((([]:List Nd).length:Nat):Int)+1 != 1)=false:=by simp
          go_upto_region 17 with fail
          go_cut [95] (fun s95 wx=>s95=.bool false/\wx=wq);case first=>rcases hk' with k14|⟨k14,k2⟩;all_goals(go_wp2_with fail;go_meet;exact⟨rfl,rfl⟩)
          case rest=>
          obtain⟨rfl,rfl⟩:=hcut;go_wp2_with fail;refine bodyPost_ret (v:=.tuple #[dZ 91 n.t.word (m.t.word++b1 61) v.t.word (.slice none 0 0) 0,.bool true]) (by simp[results,Tryz.results200,go_sem,dZ,b1,r0,r1,r2',r3,r4,r5]) rfl ?_;exact⟨.inr ⟨_,_,_,HV.o,rfl⟩,bH ((B6.o.setCell (by show w.heap.size<=w.heap.size+1;omega) _).setCell (by show w.heap.size<=w.heap.size+1;omega) _) nl _ _ _ _ _ _⟩
         .have HV:Hid (dh l=none):=by
           show _=_;rw[HT2.o];exact if_neg (fun h=>hk h.2)
          have k14:(v.t.kind != 14)=true:=by simp;exact fun e=>hk (.inl e)
          have k2:(v.t.kind != 2)=true:=by simp;exact fun e=>hk (.inr e)
          clear hk;go_wp2_with fail;refine bodyPost_ret (v:=.tuple #[dZ 0 aA aA aA (.slice none 0 0) 0,.bool false]) (by simp[results,Tryz.results200,go_sem,dZ,aA,r0,r1,r2',r3,r4,r5]) rfl ?_;exact⟨.inl ⟨HV.o,rfl⟩,bH B6.o nl _ _ _ _ _ _⟩
        .have HV:Hid (dh l=none):=by
          show _=_;rw[HT2.o];exact Fe YA
         have hne:((l3.length:Int) != 1)=true:=by
          simp;intro e;apply YA
          match l3,e with
          |[v],_=>exact⟨v,rfl⟩
         obtain⟨a4,c4,rfl⟩:=L4.o.form;have hl3:=L4.o.len;clear YA;go_wp2_with fail;refine bodyPost_ret (v:=.tuple #[dZ 0 aA aA aA (.slice none 0 0) 0,.bool false]) (by simp[results,Tryz.results200,go_sem,dZ,aA,r0,r1,r2',r3,r4,r5]) rfl ?_;exact⟨.inl ⟨HV.o,rfl⟩,bH B6.o nl _ _ _ _ _ _⟩
     .have HT1:Hid (dh l=Ry n.t.word aA (m::r1)):=by
       show _=_;rw[HT.o];show(if _ then _ else _)=_;rw[if_neg (by simp[E15.o]),if_neg hh]
      have hh':(m.t.word.toList==[126])=false/\(m.t.word.toList==[94])=false/\(m.t.word.toList==[36])=false/\(m.t.word.toList==[42])=false:=by simp only[aH];unfold tilde at hh;simp[b1]at hh⊢;exact hh
      clear hh HT E15;obtain⟨x1,x2,x3,x4⟩:=hh';have L2:Hid (Sl (fun b=>b<B) w2 (.slice (some ⟨gm,om,none⟩) (r1.length+1) c1') (m::r1)):=L1.o;obtain⟨q0,q1,q2,q3⟩:_/\_/\_/\_:=⟨m0,m1,m2,m3⟩;clear m0 m1 m2 m3 L1;go_wp2_with fail;refine pmb (eU m.t km _ _) fun w6 hb6=>?_;have B6:Hid (Below w.heap.size w w6):=W2.o.trans (hb6.mono W2.o.size);have R6:Hid (SB w6 w.heap.size (.int .u8 0) (.string ⟨#[]⟩) (.string ⟨#[]⟩) (.string ⟨#[]⟩) (.slice none 0 0) (.int .i64 0)):=R2.o.below hb6;have S6:Hid (SB w6 (w.heap.size+1) (.int .u8 91) (.string n.t.word) (.string aA) (.string ⟨#[]⟩) (.slice none 0 0) (.int .i64 0)):=S2.o.below hb6;have L6:Hid (Sl (fun b=>b<B) w6 (.slice (some ⟨gm,om,none⟩) (r1.length+1) c1') (m::r1)):=L2.o.below hb6 (by have:=W2.o.size;omega);clear hb6 q0 q1 q2 q3 L2 R2 S2 W2;obtain⟨a3,abB,hS3⟩:=L6.o.TR
      have Om:Hid (Sl (fun b=>b<B) w6 (.slice a3 r1.length (c1'-1)) r1):=hS3;clear hS3;go_wp2_with fail;refine(mQ B r1 _ w6 Om.o).mono ?_;rintro e wq ⟨v3,rfl,hS4,rfl⟩;have L4:Hid (Sl (fun b=>b<B) wq v3 (bare r1)):=hS4;clear hS4 abB Om;obtain⟨l3,Hl3⟩:∃l3,Hid (bare r1=l3):=⟨_,hid rfl⟩;rw[Hl3.o]at L4;have HT2:Hid (dh l=Ah n.t.word aA m l3):=by show _=_;rw[HT1.o];show Ah _ _ _ _=_;rw[Hl3.o]
      have yK:=R6.o.fz 0;have yL:=R6.o.fz 1;have yM:=R6.o.fz 2;have yN:=R6.o.fz 3;have yO:=R6.o.fz 4;have yP:=R6.o.fz 5;have sf2:=S6.o.fz 2;have sf3:=S6.o.fz 3;obtain⟨r0,r1,r2',r3,r4,r5⟩:=R6.o.cs;obtain⟨s0,s1,s2,s3,s4,s5⟩:=S6.o.cs;cases hq:ay m.t (b1 61)
      .have tq:ay m.t { data:=#[61] } = false:=hq;have HV:Hid (dh l=none):=by
        show _=_;rw[HT2.o];exact MK hq
       obtain⟨a4,c4,rfl⟩:=L4.o.form;go_wp2_with fail;refine bodyPost_ret (v:=.tuple #[dZ 0 aA aA aA (.slice none 0 0) 0,.bool false]) (by simp[results,Tryz.results200,go_sem,dZ,aA,r0,r1,r2',r3,r4,r5]) rfl ?_;exact⟨.inl ⟨HV.o,rfl⟩,bH B6.o nl _ _ _ _ _ _⟩
      .have tq:ay m.t { data:=#[61] } = true:=hq;by_cases YA:∃v,l3=[v]
       .obtain⟨v,rfl⟩:=YA;obtain⟨g4,o4,kv4,c4,rfl,rC,hc4⟩:=L4.o.head;have hgs:g4<w.heap.size:=by have:g4<B:=rC.s;omega
        obtain⟨q0,q1⟩:_/\_:=⟨rC.c0,rC.c1⟩;clear rC;by_cases hk:v.t.kind=14\/v.t.kind=2
        .have HV:Hid (dh l=some (.mk 91 n.t.word (aA++b1 61) v.t.word [] 0)):=by
          show _=_;rw[HT2.o];exact if_pos ⟨hq,hk⟩
         have hk':(v.t.kind != 14)=false\/((v.t.kind != 14)=true/\(v.t.kind != 2)=false):=by
          by_cases h:v.t.kind=14
          .exact .inl (by simpa using h)
          .exact .inr ⟨by simpa using h,by rcases hk with e|e;exact absurd e h;simpa using e⟩
         clear hk;have hz3:(((([]:List Nd).length:Nat):Int)+1 != 1)=false:=by simp
         go_upto_region 17 with fail
         go_cut [95] (fun s95 wx=>s95=.bool false/\wx=wq);case first=>rcases hk' with k14|⟨k14,k2⟩;all_goals(go_wp2_with fail;go_meet;exact⟨rfl,rfl⟩)
         case rest=>
         obtain⟨rfl,rfl⟩:=hcut;go_wp2_with fail;refine bodyPost_ret (v:=.tuple #[dZ 91 n.t.word (aA++b1 61) v.t.word (.slice none 0 0) 0,.bool true]) (by simp[results,Tryz.results200,go_sem,dZ,aA,b1,r0,r1,r2',r3,r4,r5]) rfl ?_;exact⟨.inr ⟨_,_,_,HV.o,rfl⟩,bH ((B6.o.setCell (by show w.heap.size<=w.heap.size+1;omega) _).setCell (by show w.heap.size<=w.heap.size+1;omega) _) nl _ _ _ _ _ _⟩
        .have HV:Hid (dh l=none):=by
          show _=_;rw[HT2.o];exact if_neg (fun h=>hk h.2)
         have k14:(v.t.kind != 14)=true:=by simp;exact fun e=>hk (.inl e)
         have k2:(v.t.kind != 2)=true:=by simp;exact fun e=>hk (.inr e)
         clear hk;go_wp2_with fail;refine bodyPost_ret (v:=.tuple #[dZ 0 aA aA aA (.slice none 0 0) 0,.bool false]) (by simp[results,Tryz.results200,go_sem,dZ,aA,r0,r1,r2',r3,r4,r5]) rfl ?_;exact⟨.inl ⟨HV.o,rfl⟩,bH B6.o nl _ _ _ _ _ _⟩
       .have HV:Hid (dh l=none):=by
         show _=_;rw[HT2.o];exact Fe YA
        have hne:((l3.length:Int) != 1)=true:=by
         simp;intro e;apply YA
         match l3,e with
         |[v],_=>exact⟨v,rfl⟩
        obtain⟨a4,c4,rfl⟩:=L4.o.form;have hl3:=L4.o.len;clear YA;go_wp2_with fail;refine bodyPost_ret (v:=.tuple #[dZ 0 aA aA aA (.slice none 0 0) 0,.bool false]) (by simp[results,Tryz.results200,go_sem,dZ,aA,r0,r1,r2',r3,r4,r5]) rfl ?_;exact⟨.inl ⟨HV.o,rfl⟩,bH B6.o nl _ _ _ _ _ _⟩
end
end Go.Proofs.YtlliliddljkbfaaGreatDoor
