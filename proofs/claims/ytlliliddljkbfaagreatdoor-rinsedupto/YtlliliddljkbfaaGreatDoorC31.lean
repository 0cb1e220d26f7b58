import Derived.Test.YtlliliddljkbfaaGreatDoorC5
import Derived.Test.YtlliliddljkbfaaGreatDoorC9
import Derived.Test.YtlliliddljkbfaaGreatDoorC12
import Derived.Test.YtlliliddljkbfaaGreatDoorC30
namespace Go.Proofs.YtlliliddljkbfaaGreatDoor
set_option maxHeartbeats 64000000
set_option maxRecDepth 100000
open Go.Proofs.Tryz (prog)
open Go.RowKit Sp
def Ov(z:Bool)(m:Nd):Bool:=aW m||(z&&aQ m)
theorem WQ:Ov false=aW:=by funext m;unfold Ov;simp
theorem aaF:Ov true=fun m=>aW m||aQ m:=by funext m;unfold Ov;simp
theorem Fv{n:Nd}{r:List Nd}(h:aW n=true):decls (n::r)=decls r:=by
 unfold decls;show jB (r.length+1) (n::r)=_;conv=>lhs;unfold jB
 rw[if_pos (by rw[h];simp)]
def DJ(z:Bool)(l:List Nd)(i j:Nat):Bool->Prop
 |false=>bM (Ov z) (l.drop i)=((l.take j).drop i++(bM (Ov z) (l.drop j)).1,(bM (Ov z) (l.drop j)).2)
 |true=>(z=true->(bM (Ov z) (l.drop i)).2.2=l.drop j)/\(z=false->(bM (Ov z) (l.drop i)).1=(l.take j).drop i/\∃m,l.drop j=m::(bM (Ov z) (l.drop i)).2.2/\aW m=true)
theorem DJ.start(z:Bool)(l:List Nd)(i:Nat):DJ z l i i false:=by show _=_;rw[show(l.take i).drop i=[] from List.drop_of_length_le (by rw[List.length_take];omega)];simp
theorem Ub{l:List Nd}{i j:Nat}{m:Nd}(hij:i<=j)(h:j<l.length)(hn:l.drop j=m::l.drop (j+1)):(l.take (j+1)).drop i=(l.take j).drop i++[m]:=by
 have e:l[j]=m:=by have:=List.drop_eq_getElem_cons h;rw[this]at hn;exact(List.cons.inj hn).1
 rw[List.take_succ_eq_append_getElem h,e,List.drop_append_of_le_length (by rw[List.length_take];omega)]
theorem DJ.step{z:Bool}{l:List Nd}{i j:Nat}{m:Nd}(h:DJ z l i j false)(hij:i<=j)(hj:j<l.length)(hn:l.drop j=m::l.drop (j+1))(hs:Ov z m=false):DJ z l i (j+1) false:=by have h':_=_:=h;show _=_;rw[h',hn,JZ hs,Ub hij hj hn];simp
theorem DJ.adu{l:List Nd}{i j:Nat}{m:Nd}(h:DJ false l i j false)(hn:l.drop j=m::l.drop (j+1))(hs:aW m=true):DJ false l i j true:=by
 have h':_=_:=h;have hst:Ov false m=true:=by rw[WQ];exact hs
 refine⟨fun h=>(by cases h),fun _=>?_⟩;rw[h',hn,Ai hst];exact⟨by simp,m,rfl,hs⟩
theorem DJ.adv{l:List Nd}{i j:Nat}{m:Nd}(h:DJ true l i j false)(hn:l.drop j=m::l.drop (j+1))(hs:Ov true m=true):DJ true l i (j+1) true:=by have h':_=_:=h;refine⟨fun _=>?_,fun h=>by cases h⟩;rw[h',hn,Ai hs]
theorem DJ.aer{l:List Nd}{i j:Nat}{dn:Bool}(h:DJ false l i j dn)(hj:dn=false->l.length<=j):(bM aW (l.drop i)).1=(l.take j).drop i/\decls (bM aW (l.drop i)).2.2=decls (l.drop j):=by
 cases dn with
 |false=>have h':_=_:=h;have e:l.drop j=[]:=List.drop_of_length_le (hj rfl);rw[WQ,e]at h';rw[h',e];simp[bM]
 |true=>have h':=h.2 rfl;rw[WQ]at h';obtain⟨h1,m,h2,h3⟩:=h';exact⟨h1,by rw[h2,Fv h3]⟩
theorem DJ.aes{l:List Nd}{i j:Nat}{dn:Bool}(h:DJ true l i j dn)(hj:dn=false->l.length<=j):(bM (fun m=>aW m||aQ m) (l.drop i)).2.2=l.drop j:=by
 cases dn with
 |false=>have h':_=_:=h;have e:l.drop j=[]:=List.drop_of_length_le (hj rfl);rw[aaF,e]at h';rw[h',e];simp[bM]
 |true=>have h':=h.1 rfl;rw[aaF]at h';exact h'
structure YC(B:Nat)(w:World)(l:List Nd)(u:Value)(acc:List Dec)(cs:List Value)(i:Nat)(wr:World):Prop where
 row:wr.ownsRow w.heap.size 131 3 u acc.length cs
 cat:jv nZ (fun b=>b<B) wr acc cs
 below:Below w.heap.size w wr
 eq:decls l=acc++decls (l.drop i)
 ln:acc.length<=i
theorem YC.upon{B:Nat}{w:World}{l:List Nd}{u:Value}{acc:List Dec}{cs:List Value}{i i':Nat}{wr wr':World}(h:YC B w l u acc cs i wr)(hb:Below wr.heap.size wr wr')(hB:B<=w.heap.size)(he:decls (l.drop i)=decls (l.drop i'))(hi:i<=i'):YC B w l u acc cs i' wr':=⟨aX h.row fun k hk=>hb.block k (h.row.lt k hk).2,h.cat.keep nZ.fair (fun _ h=>h) (fun k hk=>hb.block k (by have hk':k<B:=hk;have:=h.below.size;omega)),h.below.trans (hb.mono h.below.size),by rw[h.eq,he],by have:=h.ln;omega⟩
theorem ZG(B:Nat)(l:List Nd)(v:Value)(w:World)(h:Sl (fun b=>b<B) w v l)(hB:B<=w.heap.size):
  Calls prog 63 #[v] w fun e w'=>∃u,e=.returned u/\SG nZ 3 (fun b=>b<w'.heap.size) w' u (decls l)/\Below w.heap.size w w':=by
 have Cc:=h.len;have HS:Hid (Sl (fun b=>b<B) w v l):=h;obtain⟨a,cap,rfl⟩:=h.form;clear h;obtain⟨iT,hiT⟩:=WL;have HI:Hid (prog.info? 131=some iT/\iT.zero=some (.agg #[.string ⟨#[]⟩,.slice none 0 0,.bool false])/\iT.size=3/\iT.bytes=48):=hiT;clear hiT;go_in;go_wp2_with fail;go_loopg[3,4] l.length (fun gg v3 v4 wr=>∃(u:Value) (acc:List Dec) (cs:List Value) (i:Nat),u=v3/\v4=.int .i64 (i:Int)/\i+gg=l.length/\acc.length<=600/\Aside (YC B w l u acc cs i wr));case atStart=>exact⟨_,[],[],0,rfl,rfl,oo,by simp,World.ownsRow_nil _ _ _ _,rfl,Below.refl _ _,rfl,by simp⟩
 case round=>
  obtain⟨u,acc,cs,i,rfl,rfl,hi,hal,hA⟩:=hrel;obtain⟨wo,rfl⟩:∃q,q=wr:=⟨_,rfl⟩;have HR:Hid (YC B w l u acc cs i wo):=hA.o;clear hA;obtain⟨ua,uc,rfl⟩:=iL HR.o.row;have hsr:=HR.o.below.size;by_cases hlt:i<l.length
  .have h1:(i:Int)<(l.length:Int):=oo;have S1:=HS.o.below HR.o.below hB;have qQ:Hid (Sl (fun b=>b<B) wo (.slice a l.length cap) l):=S1;obtain⟨g,o,rfl,hL,hcap⟩:=S1.here (by rintro rfl;simp at hlt);obtain⟨kv,hN⟩:=hL.node (i:=i) hlt;have HL:Hid (eP (fun b=>b<B) wo l g o):=hL;have hgB:g<B:=hN.s;obtain⟨n,hn⟩:∃n,n=l[i]:=⟨_,rfl⟩;have Hdr:Hid (l.drop i=n::l.drop (i+1)):=by show _=_;rw[hn];exact List.drop_eq_getElem_cons hlt
   rw[<-hn]at hN;obtain⟨na,nc,rfl⟩:=hN.k.form;have Gy:Hid (∀wq,Below wo.heap.size wo wq->wq.cell? ⟨g,o+i*4,none⟩=some (.int .i64 n.t.kind)/\wq.cell? ⟨g,o+i*4+1,none⟩=some (.string n.t.word)/\wq.cell? ⟨g,o+i*4+2,none⟩=some (.string n.t.unit)/\wq.cell? ⟨g,o+i*4+3,none⟩=some (.slice na n.kids.length nc)):=fun wq hb=>by have e:∀x,wq.cell? ⟨g,x,none⟩=wo.cell? ⟨g,x,none⟩:=fun x=>hb.cell (p:=⟨g,x,none⟩) (show g<wo.heap.size by omega);rw[e,e,e,e];exact⟨hN.c0,hN.c1,hN.c2,hN.c3⟩
   clear hN hL S1 hn;obtain⟨zs,WR⟩:∃z,Hid (aW n=z):=⟨_,hid rfl⟩;have HI1:=eU n.t (.slice na n.kids.length nc) ⟨#[59]⟩ wo;rw[show ay n.t ⟨#[59]⟩=zs from WR.o]at HI1;have adw:Hid (Calls prog 66 #[dM n.t (.slice na n.kids.length nc),.string ⟨#[59]⟩] wo fun e w'=>e=.returned (.bool zs)/\Below wo.heap.size wo w'):=HI1;clear HI1;obtain⟨e0,e1,e2,e3⟩:=Gy.o _ (Below.refl _ _);go_wp2_with fail;refine adw.o.mono ?_;rintro e w1 ⟨rfl,hb1⟩;have X1:Hid (Below wo.heap.size wo w1):=hb1;clear hb1 e0 e1 e2 e3 adw;obtain⟨e0,e1,e2,e3⟩:=Gy.o _ X1.o;cases hk1:(n.t.kind==1);case true=>
    have HC:Hid (YC B w l (.slice ua acc.length uc) acc cs (i+1) w1):=HR.o.upon X1.o hB (by rw[Hdr.o];exact CS (by simp at hk1;simp[nI,hk1])) oo;go_wp2_with fail;go_roundg(gk-1);case measure=>omega
    case rel=>exact⟨_,acc,cs,i+1,rfl,by congr 1,oo,hal,HC.o⟩
   case false=>
   cases zs;case true=>
    have HC:Hid (YC B w l (.slice ua acc.length uc) acc cs (i+1) w1):=HR.o.upon X1.o hB (by rw[Hdr.o];exact Fv WR.o) oo;go_wp2_with fail;go_roundg(gk-1);case measure=>omega
    case rel=>exact⟨_,acc,cs,i+1,rfl,by congr 1,oo,hal,HC.o⟩
   case false=>
   have nk1:¬n.t.kind=1:=by simpa using hk1
   have hs1:=X1.o.size;cases hk10:(n.t.kind==10);case false=>
    go_wp2_with fail;clear e0 e1 e2 e3;go_loopg[4,8] (l.length+1) (fun gg v4 v8 wy=>∃(j:Nat) (dn:Bool),v4=.int .i64 (j:Int)/\v8=.bool dn/\(if dn=true then 0 else l.length-j+1)<=gg/\j<=l.length/\i<=j/\(dn=true->i<j)/\Aside (DJ false l i j dn/\Below wo.heap.size wo wy));case atStart=>exact⟨i,false,rfl,rfl,by first|(simp;omega)|(show l.length-i+1<=_;omega),oo,oo,by simp,DJ.start _ _ _,X1.o⟩
    case round=>
     obtain⟨wy,rfl⟩:∃q,q=wr:=⟨_,rfl⟩;obtain⟨j,dn,rfl,rfl,hj,hjl,hij,hdn,hA⟩:=hrel;have HH:Hid (DJ false l i j dn/\Below wo.heap.size wo wy):=hA.o;clear hA;have hsy:=HH.o.2.size;by_cases hex:dn=false/\j<l.length
     .obtain⟨rfl,hjlt⟩:=hex;have h2:(j:Int)<(l.length:Int):=oo;obtain⟨kv,hN⟩:=HL.o.node (i:=j) hjlt;obtain⟨m,hm⟩:∃m,m=l[j]:=⟨_,rfl⟩;have PL:Hid (l.drop j=m::l.drop (j+1)):=by show _=_;rw[hm];exact List.drop_eq_getElem_cons hjlt
      have Hmn:Hid (j=i->m=n):=fun e=>by have h3:=Hdr.o;have h4:=PL.o;rw[e,h3]at h4;exact(List.cons.inj h4).1.symm
      rw[<-hm]at hN;obtain⟨ka,kc,rfl⟩:=hN.k.form;have nU:Hid (∀wq,Below wo.heap.size wo wq->wq.cell? ⟨g,o+j*4,none⟩=some (.int .i64 m.t.kind)/\wq.cell? ⟨g,o+j*4+1,none⟩=some (.string m.t.word)/\wq.cell? ⟨g,o+j*4+2,none⟩=some (.string m.t.unit)/\wq.cell? ⟨g,o+j*4+3,none⟩=some (.slice ka m.kids.length kc)):=fun wq hb=>by have e:∀x,wq.cell? ⟨g,x,none⟩=wo.cell? ⟨g,x,none⟩:=fun x=>hb.cell (p:=⟨g,x,none⟩) (show g<wo.heap.size by omega);rw[e,e,e,e];exact⟨hN.c0,hN.c1,hN.c2,hN.c3⟩
      clear hN hm;obtain⟨ze,I4⟩:∃z,Hid (aW m=z):=⟨_,hid rfl⟩;obtain⟨zb,GK⟩:∃z,Hid (aQ m=z):=⟨_,hid rfl⟩;have qQ:=eU m.t (.slice ka m.kids.length kc) ⟨#[59]⟩;have HS2:=eU m.t (.slice ka m.kids.length kc) ⟨#[123]⟩;rw[show ay m.t ⟨#[59]⟩=ze from I4.o]at qQ;rw[show ay m.t ⟨#[123]⟩=zb from GK.o]at HS2;have HI1:Hid (∀(w:World),Calls prog 66 #[dM m.t (.slice ka m.kids.length kc),.string ⟨#[59]⟩] w fun e w'=>e=.returned (.bool ze)/\Below w.heap.size w w'):=qQ;have HI2:Hid (∀(w:World),Calls prog 66 #[dM m.t (.slice ka m.kids.length kc),.string ⟨#[123]⟩] w fun e w'=>e=.returned (.bool zb)/\Below w.heap.size w w'):=HS2;clear qQ HS2;obtain⟨e0,e1,e2,e3⟩:=nU.o _ HH.o.2;go_wp2_with fail;refine pmb (HI1.o wy) fun w3 hb3=>?_
      have X3:Hid (Below wo.heap.size wo w3):=HH.o.2.trans (hb3.mono hsy);clear hb3 e0 e1 e2 e3;have hs3:=X3.o.size;obtain⟨e0,e1,e2,e3⟩:=nU.o _ X3.o;go_wp2_with fail;refine pmb (HI2.o w3) fun w5 hb5=>?_;have X5:Hid (Below wo.heap.size wo w5):=X3.o.trans (hb5.mono hs3);clear hb5 e0 e1 e2 e3 HI1 HI2;cases ze
      .have HST:Hid (Ov false m=false):=by show(_||_)=_;rw[I4.o];rfl
       have H9:Hid (DJ false l i (j+1) false):=HH.o.1.step hij hjlt PL.o HST.o;go_wp2_with fail;go_roundg(gk-1);case measure=>simp at hj;omega
       case rel=>exact⟨j+1,false,by congr 1,rfl,by simp at hj⊢ <;> omega,oo,oo,by simp,H9.o,X5.o⟩
      .have hji:i<j:=by
        rcases Nat.lt_or_ge i j with h|h
        .exact h
        .have e:j=i:=oo;have:=I4.o;rw[Hmn.o e,WR.o]at this;cases this
       have H9:Hid (DJ false l i j true):=HH.o.1.adu PL.o I4.o;go_wp2_with fail;go_roundg(gk-1);case measure=>simp at hj;omega
       case rel=>exact⟨j,true,rfl,rfl,by simp at hj⊢ <;> omega,oo,oo,fun _=>hji,H9.o,X5.o⟩
     .have hij2:i<j:=by
       rcases Bool.eq_false_or_eq_true dn with e|e
       .exact hdn e
       .have:¬j<l.length:=fun h=>hex ⟨e,h⟩;omega
      have hend:dn=false->l.length<=j:=fun e=>by have:¬j<l.length:=fun h=>hex ⟨e,h⟩;omega
      have qU:Hid (decls l=acc++((dS ((l.take j).drop i)).toList++decls (l.drop j))):=by
       show _=_;obtain⟨h1,h2⟩:=HH.o.1.aer hend;have Zg:¬n.t.kind=10:=by simpa using hk10
       rw[HR.o.eq,Hdr.o,CU nk1 Zg,<-Hdr.o,h1,h2]
      obtain⟨a6,c6,hr6,hS6⟩:=(qQ.o.below HH.o.2 oo).rng i j oo hjl;have Yu:Hid (Sl (fun b=>b<B) wy (.slice a6 (j-i) c6) ((l.take j).drop i)):=hS6;have abd:((l.take j).drop i).length=j-i:=by rw[List.length_drop,List.length_take];omega
      have aeu:(i:Int)<=(j:Int):=oo;have hjI:(j:Int)<=(l.length:Int):=oo;have hcond:(j<l.length/\dn=true)\/l.length<=j:=by
       by_cases hq:j<l.length
       .rcases Bool.eq_false_or_eq_true dn with e|e
        .exact .inl ⟨hq,e⟩
        .exact absurd ⟨e,hq⟩ hex
       .exact .inr oo
      clear hex hS6 hend;go_upto_region 10 with fail
      go_cut [49] (fun s49 wq=>s49=.bool false/\wq=wy);case first=>
       rcases hcond with⟨h2,rfl⟩|h2
       .have h3:(j:Int)<(l.length:Int):=oo;go_wp2_with fail;go_meet
        exact⟨rfl,rfl⟩
       .have h3:(l.length:Int)<=(j:Int):=oo;go_wp2_with fail;go_meet
        exact⟨rfl,rfl⟩
      case rest=>
      obtain⟨rfl,hwc⟩:=hcut;obtain rfl:=hwc.symm;go_wp2_with fail;refine(WM B ((l.take j).drop i) _ wy Yu.o oo).mono ?_;rintro e w7 ⟨hdc,hb7⟩;have X7:Hid (Below wo.heap.size wo w7):=HH.o.2.trans (hb7.mono hsy);have hs7:=X7.o.size;clear hb7 hr6;cases hd:dS ((l.take j).drop i)with
      |none=>
       rw[hd]at hdc;have VY:e=_:=hdc;subst VY;have HD:Hid (dS ((l.take j).drop i)=none):=hd;clear hd;have X8:Hid (Below wo.heap.size wo (w7.alloc (.cells #[.string ⟨#[]⟩,.slice none 0 0,.bool false] 131))):=X7.o.alloc hs7 _;have HC:Hid (YC B w l (.slice ua acc.length uc) acc cs j (w7.alloc (.cells #[.string ⟨#[]⟩,.slice none 0 0,.bool false] 131))):=⟨aX HR.o.row fun k hk=>X8.o.block k (HR.o.row.lt k hk).2,HR.o.cat.keep nZ.fair (fun _ h=>h) (fun k hk=>by have hk':k<B:=hk;exact X8.o.block k oo),HR.o.below.trans (X8.o.mono hsr),by rw[qU.o,HD.o];rfl,by have:=HR.o.ln;omega⟩;go_wp2_with fail;go_roundg(l.length-j);case measure=>omega
       case rel=>exact⟨_,acc,cs,j,rfl,rfl,oo,hal,HC.o⟩
      |some d=>
       rw[hd]at hdc;obtain⟨vv,rfl,hvv,hps⟩:=hdc;obtain⟨da,dc,rfl⟩:=hvv.form;have HD:Hid (dS ((l.take j).drop i)=some d):=hd;have HVV:Hid (Sl (fun b=>b<B) w7 (.slice da d.val.length dc) d.val):=hvv;clear hd hvv;have D4:Hid (Q3 131 (w7.alloc (.cells #[.string d.prop,.slice da d.val.length dc,.bool d.imp] 131)) w7.heap.size (.string d.prop) (.slice da d.val.length dc) (.bool d.imp)):=Q3.new _ _ _ _ _;have X4:Hid (Below wo.heap.size wo (w7.alloc (.cells #[.string d.prop,.slice da d.val.length dc,.bool d.imp] 131))):=X7.o.alloc hs7 _;have XX4:Hid (Below w7.heap.size w7 (w7.alloc (.cells #[.string d.prop,.slice da d.val.length dc,.bool d.imp] 131))):=(Below.refl _ _).alloc nl _;have hln:=HR.o.ln;go_upto_region 17 with fail
       generalize w7.alloc (.cells #[.string d.prop,.slice da d.val.length dc,.bool d.imp] 131)=w4 at *;generalize w7.heap.size=gd at *;obtain⟨p0,p1,p2⟩:=D4.o.cs;have R4:Hid (w4.ownsRow w.heap.size 131 3 (.slice ua acc.length uc) acc.length cs):=aX HR.o.row fun k hk=>X4.o.block k (HR.o.row.lt k hk).2;have CT4:Hid (jv nZ (fun b=>b<B) w4 acc cs):=HR.o.cat.keep nZ.fair (fun _ h=>h) (fun k hk=>by have hk':k<B:=hk;exact X4.o.block k oo);have Oo:Hid (Below w.heap.size w w4):=HR.o.below.trans (X4.o.mono hsr);have hs4:=Oo.o.size;have Gz:Hid ((w4.alloc (.cells #[.string d.prop,.slice da d.val.length dc,.bool d.imp] 131)).ownsRow w.heap.size 131 3 (.slice ua acc.length uc) acc.length cs):=R4.o.alloc _;have hgd:=D4.o.lt;have abb:Hid (Sl (fun b=>b<B) w4 (.slice da d.val.length dc) d.val):=HVV.o.below XX4.o oo
       go_wp2_with(at_builtin;go_must(refine wpList_append_own_at _ rfl _ _ 127 rfl w.heap.size 131 iT (.agg #[.string ⟨#[]⟩,.slice none 0 0,.bool false]) 3 48 Tryz.underlying127 HI.o.1 HI.o.2.1 HI.o.2.2.1 HI.o.2.2.2 rfl oo (.slice ua acc.length uc) acc.length cs rfl Gz.o ⟨w4.heap.size,0,none⟩ 1 1 [.string d.prop,.slice da d.val.length dc,.bool d.imp] rfl rfl (acZ _ _ _ _ _) (by simp[Value.oneCell']) (by unfold maxLen;omega) oo (by simp;omega) ?_));intro v6 w6 hown6 jO _ zH;have hlo:∀rr,Value.ownBlock (.slice ua acc.length uc)=some rr->w.heap.size<=rr:=fun rr hr=>(Gz.o.lt rr hr).1;have hb6:Below w.heap.size w4 w6:=((Below.refl _ _).alloc hs4 _).grown jO (by simp;omega) hlo
       have AX:Hid (YC B w l v6 (acc++[d]) (cs++[.string d.prop,.slice da d.val.length dc,.bool d.imp]) j w6):=⟨by rw[List.length_append];exact hown6,jv.snoc _ _ (CT4.o.keep nZ.fair (fun _ h=>h) (fun k hk=>hb6.block k (Nat.lt_of_lt_of_le hk hB))) d _ ⟨_,rfl,abb.o.below hb6 hB,hps⟩,Oo.o.trans hb6,by rw[qU.o,HD.o,List.append_assoc];rfl,by simp;omega⟩;have hl7:(acc++[d]).length<=600:=by have:=AX.o.ln;omega
       clear hown6 jO zH hlo hb6;go_wp2_with fail;go_roundg(l.length-j);case measure=>omega
       case rel=>exact⟨_,acc++[d],_,j,rfl,rfl,oo,hl7,AX.o⟩
   case true=>
    go_wp2_with fail;clear e0 e1 e2 e3;go_loopg[4,8] l.length (fun gg v4 v8 wy=>∃(j:Nat) (dn:Bool),v4=.int .i64 (j:Int)/\v8=.bool dn/\l.length<=j+gg/\j<=l.length/\i<=j/\(dn=true->i<j)/\Aside (DJ true l i j dn/\Below wo.heap.size wo wy));case atStart=>exact⟨i,false,rfl,rfl,oo,oo,oo,by simp,DJ.start _ _ _,X1.o⟩
    case round=>
     obtain⟨wy,rfl⟩:∃q,q=wr:=⟨_,rfl⟩;obtain⟨j,dn,rfl,rfl,hj,hjl,hij,hdn,hA⟩:=hrel;have HH:Hid (DJ true l i j dn/\Below wo.heap.size wo wy):=hA.o;clear hA;have hsy:=HH.o.2.size;by_cases hex:dn=false/\j<l.length
     .obtain⟨rfl,hjlt⟩:=hex;have h2:(j:Int)<(l.length:Int):=oo;obtain⟨kv,hN⟩:=HL.o.node (i:=j) hjlt;obtain⟨m,hm⟩:∃m,m=l[j]:=⟨_,rfl⟩;have PL:Hid (l.drop j=m::l.drop (j+1)):=by show _=_;rw[hm];exact List.drop_eq_getElem_cons hjlt
      have Hmn:Hid (j=i->m=n):=fun e=>by have h3:=Hdr.o;have h4:=PL.o;rw[e,h3]at h4;exact(List.cons.inj h4).1.symm
      rw[<-hm]at hN;obtain⟨ka,kc,rfl⟩:=hN.k.form;have nU:Hid (∀wq,Below wo.heap.size wo wq->wq.cell? ⟨g,o+j*4,none⟩=some (.int .i64 m.t.kind)/\wq.cell? ⟨g,o+j*4+1,none⟩=some (.string m.t.word)/\wq.cell? ⟨g,o+j*4+2,none⟩=some (.string m.t.unit)/\wq.cell? ⟨g,o+j*4+3,none⟩=some (.slice ka m.kids.length kc)):=fun wq hb=>by have e:∀x,wq.cell? ⟨g,x,none⟩=wo.cell? ⟨g,x,none⟩:=fun x=>hb.cell (p:=⟨g,x,none⟩) (show g<wo.heap.size by omega);rw[e,e,e,e];exact⟨hN.c0,hN.c1,hN.c2,hN.c3⟩
      clear hN hm;obtain⟨ze,I4⟩:∃z,Hid (aW m=z):=⟨_,hid rfl⟩;obtain⟨zb,GK⟩:∃z,Hid (aQ m=z):=⟨_,hid rfl⟩;have qQ:=eU m.t (.slice ka m.kids.length kc) ⟨#[59]⟩;have HS2:=eU m.t (.slice ka m.kids.length kc) ⟨#[123]⟩;rw[show ay m.t ⟨#[59]⟩=ze from I4.o]at qQ;rw[show ay m.t ⟨#[123]⟩=zb from GK.o]at HS2;have HI1:Hid (∀(w:World),Calls prog 66 #[dM m.t (.slice ka m.kids.length kc),.string ⟨#[59]⟩] w fun e w'=>e=.returned (.bool ze)/\Below w.heap.size w w'):=qQ;have HI2:Hid (∀(w:World),Calls prog 66 #[dM m.t (.slice ka m.kids.length kc),.string ⟨#[123]⟩] w fun e w'=>e=.returned (.bool zb)/\Below w.heap.size w w'):=HS2;clear qQ HS2;obtain⟨e0,e1,e2,e3⟩:=nU.o _ HH.o.2;go_wp2_with fail;refine pmb (HI1.o wy) fun w3 hb3=>?_
      have X3:Hid (Below wo.heap.size wo w3):=HH.o.2.trans (hb3.mono hsy);clear hb3 e0 e1 e2 e3;have hs3:=X3.o.size;obtain⟨e0,e1,e2,e3⟩:=nU.o _ X3.o;go_wp2_with fail;refine pmb (HI2.o w3) fun w5 hb5=>?_;have X5:Hid (Below wo.heap.size wo w5):=X3.o.trans (hb5.mono hs3);clear hb5 e0 e1 e2 e3 HI1 HI2;have stop:∀(hs:Ov true m=true),Hid (DJ true l i (j+1) true):=fun hs=>HH.o.1.adv PL.o hs;cases ze
      .cases zb
       .have HST:Hid (Ov true m=false):=by show(_||_)=_;rw[I4.o,GK.o];rfl
        have H9:Hid (DJ true l i (j+1) false):=HH.o.1.step hij hjlt PL.o HST.o;clear stop;go_wp2_with fail;go_roundg(gk-1);case measure=>omega
        case rel=>exact⟨j+1,false,by congr 1,rfl,oo,oo,oo,by simp,H9.o,X5.o⟩
       .have H9:=stop (by show(_||_)=_;rw[I4.o,GK.o];rfl);clear stop;go_wp2_with fail;go_roundg(gk-1);case measure=>omega
        case rel=>exact⟨j+1,true,by congr 1,rfl,oo,oo,oo,fun _=>by omega,H9.o,X5.o⟩
      .have H9:=stop (by show(_||_)=_;rw[I4.o];rfl);clear stop;go_wp2_with fail;go_roundg(gk-1);case measure=>omega
       case rel=>exact⟨j+1,true,by congr 1,rfl,oo,oo,oo,fun _=>by omega,H9.o,X5.o⟩
     .have hij2:i<j:=by
       rcases Bool.eq_false_or_eq_true dn with e|e
       .exact hdn e
       .have:¬j<l.length:=fun h=>hex ⟨e,h⟩;omega
      have hend:dn=false->l.length<=j:=fun e=>by have:¬j<l.length:=fun h=>hex ⟨e,h⟩;omega
      have qU:Hid (decls (l.drop i)=decls (l.drop j)):=by
       show _=_;have k10:n.t.kind=10:=by simpa using hk10
       have h2:=HH.o.1.aes hend;rw[Hdr.o,JZ (by simp[aW,aQ,dY,ay,k10])]at h2;rw[Hdr.o,LM k10];exact congrArg decls h2
      have HNO:Hid (dS ((l.take j).drop i)=none):=by
       show _=_;have k10:n.t.kind=10:=by simpa using hk10
       obtain⟨q,hq⟩:∃q,(l.take j).drop i=n::q:=by
        have hlt2:i<(l.take j).length:=by rw[List.length_take];omega
        have e:=List.drop_eq_getElem_cons hlt2;have e2:(l.take j)[i]'hlt2=n:=by rw[List.getElem_take];have h3:=List.drop_eq_getElem_cons hlt;rw[Hdr.o]at h3;exact(List.cons.inj h3).1.symm
        exact⟨_,by rw[e,e2]⟩
       rw[hq];exact uT (by simp[k10])
      obtain⟨a6,c6,hr6,hS6⟩:=(qQ.o.below HH.o.2 oo).rng i j oo hjl;have Yu:Hid (Sl (fun b=>b<B) wy (.slice a6 (j-i) c6) ((l.take j).drop i)):=hS6;have abd:((l.take j).drop i).length=j-i:=by rw[List.length_drop,List.length_take];omega
      have aeu:(i:Int)<=(j:Int):=oo;have hjI:(j:Int)<=(l.length:Int):=oo;have hcond:(j<l.length/\dn=true)\/l.length<=j:=by
       by_cases hq:j<l.length
       .rcases Bool.eq_false_or_eq_true dn with e|e
        .exact .inl ⟨hq,e⟩
        .exact absurd ⟨e,hq⟩ hex
       .exact .inr oo
      clear hex hS6 hend;go_upto_region 10 with fail
      go_cut [49] (fun s49 wq=>s49=.bool false/\wq=wy);case first=>
       rcases hcond with⟨h2,rfl⟩|h2
       .have h3:(j:Int)<(l.length:Int):=oo;go_wp2_with fail;go_meet
        exact⟨rfl,rfl⟩
       .have h3:(l.length:Int)<=(j:Int):=oo;go_wp2_with fail;go_meet
        exact⟨rfl,rfl⟩
      case rest=>
      obtain⟨rfl,hwc⟩:=hcut;obtain rfl:=hwc.symm;go_wp2_with fail;refine(WM B ((l.take j).drop i) _ wy Yu.o oo).mono ?_;rintro e w7 ⟨hdc,hb7⟩;have X7:Hid (Below wo.heap.size wo w7):=HH.o.2.trans (hb7.mono hsy);have hs7:=X7.o.size;clear hb7 hr6;rw[HNO.o]at hdc;have VY:e=_:=hdc;subst VY;have X8:Hid (Below wo.heap.size wo (w7.alloc (.cells #[.string ⟨#[]⟩,.slice none 0 0,.bool false] 131))):=X7.o.alloc hs7 _;have HC:Hid (YC B w l (.slice ua acc.length uc) acc cs j (w7.alloc (.cells #[.string ⟨#[]⟩,.slice none 0 0,.bool false] 131))):=⟨aX HR.o.row fun k hk=>X8.o.block k (HR.o.row.lt k hk).2,HR.o.cat.keep nZ.fair (fun _ h=>h) (fun k hk=>by have hk':k<B:=hk;exact X8.o.block k oo),HR.o.below.trans (X8.o.mono hsr),by rw[HR.o.eq,qU.o],by have:=HR.o.ln;omega⟩;go_wp2_with fail;go_roundg(l.length-j);case measure=>omega
      case rel=>exact⟨_,acc,cs,j,rfl,rfl,oo,hal,HC.o⟩
  .have h1:(l.length:Int)<=(i:Int):=oo;have HV:Hid (decls l=acc):=by show _=_;rw[HR.o.eq,List.drop_of_length_le oo];exact List.append_nil _
   go_wp2_with fail;go_ret;exact⟨_,rfl,by rw[HV.o];exact JF nZ.fair nZ.sized HR.o.row HR.o.cat (fun g hg=>by have hg':g<B:=hg;omega) oo,HR.o.below⟩
def jps(sep:ByteArray)(ps:List ByteArray):Nat->List ByteArray
 |0=>[]
 |k+1=>jps sep ps k++((if k=0 then [] else [sep])++[ps.getD k aA])
theorem Ak(sep:ByteArray)(ps:List ByteArray)(k:Nat):jps sep ps (k+1)=jps sep ps k++((if k=0 then [] else [sep])++[ps.getD k aA]):=rfl
theorem ZH(sep:ByteArray)(ps:List ByteArray)(k:Nat):(jps sep ps k).length<=2*k:=by
 induction k with
 |zero=>simp[jps]
 |succ k ih=>rw[Ak];split<;>simp<;>omega
def WS(sep:ByteArray)(ps:List ByteArray):Nat:=total ps+ps.length*sep.size
theorem Uc(sep:ByteArray)(ps:List ByteArray):∀k,k<=ps.length->total (jps sep ps k)<=total (ps.take k)+k*sep.size:=by
 intro k;induction k with
 |zero=>intro _;simp[jps,total]
 |succ k ih=>
  intro hk;have h:=ih oo;rw[Ak,dN,dN,List.take_succ_eq_append_getElem (show k<ps.length by omega),dN,List.getD_eq_getElem?_getD,List.getElem?_eq_getElem (show k<ps.length by omega)];have e:total (if k=0 then [] else [sep])<=sep.size:=by split<;>simp[total]
  rw[Nat.add_mul];simp only[Option.getD_some];omega
theorem WT(sep:ByteArray):∀(ps:List ByteArray) (pre:List ByteArray) (k:Nat),0<k->pre.length=k->aB (jps sep (pre++ps) (k+ps.length))=aB (jps sep (pre++ps) k)++(if ps=[] then aA else sep++gI sep ps):=by
 intro ps;induction ps with
 |nil=>intro pre k hk hp;simp[jL]
 |cons a r ih=>
  intro pre k hk hp;have h:=ih (pre++[a]) (k+1) oo (by simp[hp]);rw[List.append_assoc,List.singleton_append]at h;rw[show k+(a::r).length=k+1+r.length by simp;omega,h,Ak,if_neg oo,pq,pq];have hg:(pre++a::r).getD k aA=a:=by rw[List.getD_eq_getElem?_getD,List.getElem?_append_right oo,hp];simp
  rw[hg,show(if (a::r)=[] then aA else sep++gI sep (a::r))=sep++gI sep (a::r) from if_neg (by simp)];have e1:aB [sep]=sep:=by simp[aB]
  have e2:aB [a]=a:=by simp[aB]
  rw[e1,e2];cases r with
  |nil=>rw[if_pos rfl,jL];rfl
  |cons b q=>rw[if_neg (by simp)];show _++(sep++a)++(sep++gI sep (b::q))=_++(sep++(a++(sep++gI sep (b::q))));rw[ByteArray.append_assoc,ByteArray.append_assoc]
theorem ZI(sep:ByteArray)(ps:List ByteArray):aB (jps sep ps ps.length)=gI sep ps:=by
 cases ps with
 |nil=>rfl
 |cons a r=>
  have h:=WT sep r [a] 1 oo rfl;rw[show(a::r).length=1+r.length by simp;omega];rw[List.singleton_append]at h;rw[h];show aB (jps sep (a::r) 1)++_=_;have e:jps sep (a::r) 1=[a]:=rfl;rw[e];cases r with
  |nil=>simp[aB,gI,jL]
  |cons b q=>rw[if_neg (by simp)];simp[aB,gI]
theorem Fz(sep:ByteArray)(ps:List ByteArray)(base:Nat)(v:Value)(w:World)(h:w.ownsRow base 9 1 v ps.length (ps.map Value.string))(hn:ps.length<=4194304)(ht:WS sep ps<=1099511627776):
  Calls prog 178 #[.string sep,v] w fun e w'=>e=.returned (.string (gI sep ps))/\Below w.heap.size w w':=by
 have HO:Hid (w.ownsRow base 9 1 v ps.length (ps.map Value.string)):=h;obtain⟨va,vc,rfl⟩:=iL h;clear h;obtain⟨iS,uh⟩:=jV;have HI:Hid (prog.info? 9=some iS/\iS.zero=some (.string ⟨#[]⟩)/\iS.size=1/\iS.bytes=16):=uh;clear uh;go_in;go_wp2_with fail;go_loopg[5,10] ps.length (fun gg v5 v10 wr=>∃(u:Value) (k:Nat),u=v5/\k+gg=ps.length/\v10=.int .i64 (k:Int)/\Aside (wr.ownsRow w.heap.size 9 1 u (jps sep ps k).length ((jps sep ps k).map Value.string)/\Below w.heap.size w wr));case atStart=>exact⟨_,0,rfl,oo,rfl,World.ownsRow_nil _ _ _ _,Below.refl _ _⟩
 case round=>
  obtain⟨u,k,rfl,hk,rfl,hA⟩:=hrel;have O1:Hid (wr.ownsRow w.heap.size 9 1 u (jps sep ps k).length ((jps sep ps k).map Value.string)):=hA.o.1;have B1:Hid (Below w.heap.size w wr):=hA.o.2;clear hA;have hsz:=B1.o.size;have hjl:=ZH sep ps k;by_cases hlt:k<ps.length
  .have h1:(k:Int)<(ps.length:Int):=oo;obtain⟨g,c',hq⟩:∃g c',Value.slice va ps.length vc=.slice (some ⟨g,0,none⟩) ps.length c':=by
    rcases HO.o.2 with⟨hv,hn⟩|⟨g,c',_,hv,_⟩
    .omega
    .exact⟨g,c',hv⟩
   injection hq with hq1 _ hq2
   subst hq1 hq2;have hgl:g<w.heap.size:=(HO.o.lt g rfl).2;have c0:wr.cell? ⟨g,k,none⟩=some (.string (ps.getD k aA)):=by have:=HO.o.cells (g:=g) rfl k (.string (ps.getD k aA)) (by rw[List.getElem?_map,List.getD_eq_getElem?_getD,List.getElem?_eq_getElem hlt];rfl);rw[Addr.add_lit,Nat.zero_add]at this;rw[B1.o.cell (p:=⟨g,_,none⟩) hgl];exact this
   have HJ:Hid (jps sep ps (k+1)=jps sep ps k++((if k=0 then [] else [sep])++[ps.getD k aA])):=Ak sep ps k;generalize ps.getD k aA=x at *;by_cases h0:k=0
   .subst h0;have HJ2:Hid (jps sep ps (0+1)=jps sep ps 0++[x]):=HJ.o;go_wp2_with(at_builtin;go_must(refine wpList_append_own _ rfl _ _ 22 rfl w.heap.size 9 iS (.string ⟨#[]⟩) 1 16 Tryz.underlying22 HI.o.1 HI.o.2.1 HI.o.2.2.1 HI.o.2.2.2 rfl oo u (jps sep ps 0).length ((jps sep ps 0).map Value.string) rfl (O1.o.alloc _) ⟨wr.heap.size,0,none⟩ 1 1 [.string x] rfl rfl (cell_one_new _ _ _) (bf _) (by unfold maxLen;omega) oo (by simp;omega) ?_));intro v4 w4 hown4 bG _;have O4:Hid (w4.ownsRow w.heap.size 9 1 v4 (jps sep ps (0+1)).length ((jps sep ps (0+1)).map Value.string)):=by show World.ownsRow _ _ _ _ _ _ _;rw[HJ2.o];first|(rw[List.length_append,List.map_append];exact hown4)|simpa using hown4
    have B4:Hid (Below w.heap.size w w4):=(B1.o.alloc hsz _).grown bG (by simp;omega) (fun rr hr=>(O1.o.lt rr hr).1);clear hown4 bG;go_wp2_with fail;go_roundg(gk-1);case measure=>omega
    case rel=>exact⟨v4,0+1,rfl,oo,by congr 1,O4.o,B4.o⟩
   .have h0':(0:Int)<(k:Int):=oo;have HJ2:Hid (jps sep ps (k+1)=(jps sep ps k++[sep])++[x]):=by show _=_;rw[HJ.o,if_neg h0,List.append_assoc]
    clear h0;go_wp2_with(at_builtin;go_must(refine wpList_append_own _ rfl _ _ 22 rfl w.heap.size 9 iS (.string ⟨#[]⟩) 1 16 Tryz.underlying22 HI.o.1 HI.o.2.1 HI.o.2.2.1 HI.o.2.2.2 rfl oo u (jps sep ps k).length ((jps sep ps k).map Value.string) rfl (O1.o.alloc _) ⟨wr.heap.size,0,none⟩ 1 1 [.string sep] rfl rfl (cell_one_new _ _ _) (bf _) (by unfold maxLen;omega) oo (by simp;omega) ?_));intro v3 w3 hown3 VP _;have O3:Hid (w3.ownsRow w.heap.size 9 1 v3 (jps sep ps k++[sep]).length ((jps sep ps k++[sep]).map Value.string)):=by show World.ownsRow _ _ _ _ _ _ _;first|(rw[List.length_append,List.map_append];exact hown3)|simpa using hown3
    have B3:Hid (Below w.heap.size w w3):=(B1.o.alloc hsz _).grown VP (by simp;omega) (fun rr hr=>(O1.o.lt rr hr).1);have hs3:=B3.o.size;have hl3:(jps sep ps k++[sep]).length<=2*k+1:=by simp;omega
    clear hown3 VP c0;go_wp2_with(at_builtin;go_must(refine wpList_append_own _ rfl _ _ 22 rfl w.heap.size 9 iS (.string ⟨#[]⟩) 1 16 Tryz.underlying22 HI.o.1 HI.o.2.1 HI.o.2.2.1 HI.o.2.2.2 rfl oo v3 (jps sep ps k++[sep]).length ((jps sep ps k++[sep]).map Value.string) rfl (O3.o.alloc _) ⟨w3.heap.size,0,none⟩ 1 1 [.string x] rfl rfl (cell_one_new _ _ _) (bf _) (by unfold maxLen;simp;omega) oo (by simp;omega) ?_));intro v4 w4 hown4 bG _;have O4:Hid (w4.ownsRow w.heap.size 9 1 v4 (jps sep ps (k+1)).length ((jps sep ps (k+1)).map Value.string)):=by show World.ownsRow _ _ _ _ _ _ _;rw[HJ2.o];first|(rw[List.length_append,List.map_append];exact hown4)|simpa using hown4
    have B4:Hid (Below w.heap.size w w4):=(B3.o.alloc hs3 _).grown bG (by simp;omega) (fun rr hr=>(O3.o.lt rr hr).1);clear hown4 bG;go_wp2_with fail;go_roundg(gk-1);case measure=>omega
    case rel=>exact⟨v4,k+1,rfl,oo,by congr 1,O4.o,B4.o⟩
  .have h1:(ps.length:Int)<=(k:Int):=oo;have hke:k=ps.length:=oo;subst hke;have hjt:=Uc sep ps ps.length nl;rw[List.take_of_length_le nl]at hjt;have HV:Hid (aB (jps sep ps ps.length)=gI sep ps):=ZI sep ps;unfold WS at ht;go_wp2_with fail;refine pmb (eG (jps sep ps ps.length) w.heap.size u _ O1.o oo oo) fun w5 hb5=>?_;have B5:Hid (Below w.heap.size w w5):=B1.o.trans (hb5.mono hsz);clear hb5;go_wp2_with fail;go_ret;exact⟨iW HV.o,B5.o⟩
section
attribute [local go_sem] dH dI bQ bT
def Ja(c:Nat):Int:=if c=32 then 1 else if c=62 then 2 else if c=43 then 3 else if c=126 then 4 else 0
theorem vG(s:ByteArray):ay (hdN []).t s=false:=by simp[ay,hdN,Tok.k]
theorem WU{l:List Nd}(h:ay (hdN (aC l)).t (b1 62)=true):gQ l=some (62,aC (aC l).tail):=by
 unfold gQ;cases hd:aC l with
 |nil=>rw[hd,vG]at h;cases h
 |cons n r=>rw[hd]at h;simp only[hdN]at h;simp[dY,h]
theorem PV{l:List Nd}(h0:ay (hdN (aC l)).t (b1 62)=false)(h:ay (hdN (aC l)).t (b1 43)=true):gQ l=some (43,aC (aC l).tail):=by
 unfold gQ;cases hd:aC l with
 |nil=>rw[hd,vG]at h;cases h
 |cons n r=>rw[hd]at h h0;simp only[hdN]at h h0;simp[dY,h,h0]
theorem MV{l:List Nd}(h0:ay (hdN (aC l)).t (b1 62)=false)(h1:ay (hdN (aC l)).t (b1 43)=false)(h:ay (hdN (aC l)).t (b1 126)=true):gQ l=some (126,aC (aC l).tail):=by
 unfold gQ;cases hd:aC l with
 |nil=>rw[hd,vG]at h;cases h
 |cons n r=>rw[hd]at h h0 h1;simp only[hdN]at h h0 h1;simp[dY,h,h0,h1]
theorem MW{l:List Nd}(h0:ay (hdN (aC l)).t (b1 62)=false)(h1:ay (hdN (aC l)).t (b1 43)=false)(h2:ay (hdN (aC l)).t (b1 126)=false)(h:(aC l).length<l.length):gQ l=some (32,aC l):=by
 unfold gQ;cases hd:aC l with
 |nil=>
  have:l≠[]:=by rintro rfl;simp at h
  simp[this]
 |cons n r=>rw[hd]at h h0 h1 h2;simp only[hdN]at h0 h1 h2;simp only[dY,h0,h1,h2];simp only[Bool.false_eq_true,if_false];rw[if_pos h]
theorem PW{l:List Nd}(h0:ay (hdN (aC l)).t (b1 62)=false)(h1:ay (hdN (aC l)).t (b1 43)=false)(h2:ay (hdN (aC l)).t (b1 126)=false)(h:¬(aC l).length<l.length):gQ l=none:=by
 unfold gQ;cases hd:aC l with
 |nil=>
  have:l=[]:=by rw[hd]at h;exact List.eq_nil_of_length_eq_zero (by simp only[List.length_nil]at h;omega)
  simp[this]
 |cons n r=>rw[hd]at h h0 h1 h2;simp only[hdN]at h0 h1 h2;simp only[dY,h0,h1,h2];simp only[Bool.false_eq_true,if_false];rw[if_neg h]
theorem J4(B b:Nat)(sv:Value)(l:List Nd)(w:World)(h:iw B w b sv l):
  Calls prog 190 #[.pointer (some ⟨b,0,none⟩)] w fun e w'=>∃sv' l',iw B w' b sv' l'/\Turn b w w'/\(gQ l=none/\e=.returned (.tuple #[.int .i64 0,.bool false])\/∃c,gQ l=some (c,l')/\e=.returned (.tuple #[.int .i64 (Ja c),.bool true])):=by
 have R1:Hid (iw B w b sv l):=h;clear h;obtain⟨d,Hd⟩:∃d,Hid (aC l=d):=⟨_,hid rfl⟩;obtain⟨bl,Hbl⟩:∃bl,Hid (decide (d.length<l.length)=bl):=⟨_,hid rfl⟩;go_in;go_wp2_with fail;refine(vY B b sv l _ R1.o).mono ?_;rw[Hd.o,Hbl.o];rintro e w1 ⟨sv1,rfl,hR1,hT1⟩;have R2:Hid (iw B w1 b sv1 d):=hR1;have T2:Hid (Turn b w w1):=hT1;clear hR1 hT1 R1;go_wp2_with fail;refine(oq B b sv1 d (b1 62) _ R2.o).mono ?_;rintro e w2 ⟨RG,rfl,hR2,hT2⟩;have T3:Hid (Turn b w w2):=T2.o.trans hT2;clear hT2;obtain⟨s1,DW⟩:∃s,Hid (ay (hdN d).t (b1 62)=s):=⟨_,hid rfl⟩;rw[DW.o];cases s1
 .have R3:Hid (iw B w2 b RG d):=by have:=hR2;rw[vX DW.o]at this;exact this
  clear hR2 R2 T2;go_wp2_with fail;refine(oq B b RG d (b1 43) _ R3.o).mono ?_;rintro e w3 ⟨BM,rfl,AY,J5⟩;have T4:Hid (Turn b w w3):=T3.o.trans J5;clear J5;obtain⟨s2,Ud⟩:∃s,Hid (ay (hdN d).t (b1 43)=s):=⟨_,hid rfl⟩;rw[Ud.o];cases s2
  .have R4:Hid (iw B w3 b BM d):=by have:=AY;rw[vX Ud.o]at this;exact this
   clear AY R3 T3;go_wp2_with fail;refine(oq B b BM d (b1 126) _ R4.o).mono ?_;rintro e w4 ⟨Vp,rfl,SN,Vq⟩;have T5:Hid (Turn b w w4):=T4.o.trans Vq;clear Vq;obtain⟨s3,Hs3⟩:∃s,Hid (ay (hdN d).t (b1 126)=s):=⟨_,hid rfl⟩;rw[Hs3.o];cases s3
   .have R5:Hid (iw B w4 b Vp d):=by have:=SN;rw[vX Hs3.o]at this;exact this
    clear SN R4 T4;cases bl
    .have HV:Hid (gQ l=none):=PW (by rw[Hd.o];exact DW.o) (by rw[Hd.o];exact Ud.o) (by rw[Hd.o];exact Hs3.o) (by rw[Hd.o];have:=Hbl.o;simpa using this);go_wp2_with fail;go_ret2
     exact⟨_,_,R5.o,T5.o,.inl ⟨HV.o,rfl⟩⟩
    .have HV:Hid (gQ l=some (32,d)):=by
      have:=MW (l:=l) (by rw[Hd.o];exact DW.o) (by rw[Hd.o];exact Ud.o) (by rw[Hd.o];exact Hs3.o) (by rw[Hd.o];have:=Hbl.o;simpa using this);rwa[Hd.o]at this
     go_wp2_with fail;go_ret2
     exact⟨_,_,R5.o,T5.o,.inr ⟨32,HV.o,rfl⟩⟩
   .have R5:Hid (iw B w4 b Vp d.tail):=by have:=SN;rw[pW Hs3.o]at this;exact this
    clear SN R4 T4;have HV:Hid (gQ l=some (126,aC d.tail)):=by have:=MV (l:=l) (by rw[Hd.o];exact DW.o) (by rw[Hd.o];exact Ud.o) (by rw[Hd.o];exact Hs3.o);rwa[Hd.o]at this
    go_wp2_with fail;refine(vY B b Vp d.tail _ R5.o).mono ?_;rintro e w6 ⟨sv6,rfl,MX,KL⟩;have R6:Hid (iw B w6 b sv6 (aC d.tail)):=MX;have T6:Hid (Turn b w w6):=T5.o.trans KL;clear MX KL;go_wp2_with fail;go_ret2
    exact⟨_,_,R6.o,T6.o,.inr ⟨126,HV.o,rfl⟩⟩
  .have R4:Hid (iw B w3 b BM d.tail):=by have:=AY;rw[pW Ud.o]at this;exact this
   clear AY R3 T3;have HV:Hid (gQ l=some (43,aC d.tail)):=by have:=PV (l:=l) (by rw[Hd.o];exact DW.o) (by rw[Hd.o];exact Ud.o);rwa[Hd.o]at this
   go_wp2_with fail;refine(vY B b BM d.tail _ R4.o).mono ?_;rintro e w6 ⟨sv6,rfl,MX,KL⟩;have R6:Hid (iw B w6 b sv6 (aC d.tail)):=MX;have T6:Hid (Turn b w w6):=T4.o.trans KL;clear MX KL;go_wp2_with fail;go_ret2
   exact⟨_,_,R6.o,T6.o,.inr ⟨43,HV.o,rfl⟩⟩
 .have R3:Hid (iw B w2 b RG d.tail):=by have:=hR2;rw[pW DW.o]at this;exact this
  clear hR2 R2 T2;have HV:Hid (gQ l=some (62,aC d.tail)):=by have:=WU (l:=l) (by rw[Hd.o];exact DW.o);rwa[Hd.o]at this
  go_wp2_with fail;refine(vY B b RG d.tail _ R3.o).mono ?_;rintro e w6 ⟨sv6,rfl,MX,KL⟩;have R6:Hid (iw B w6 b sv6 (aC d.tail)):=MX;have T6:Hid (Turn b w w6):=T3.o.trans KL;clear MX KL;go_wp2_with fail;go_ret2
  exact⟨_,_,R6.o,T6.o,.inr ⟨62,HV.o,rfl⟩⟩
end
end Go.Proofs.YtlliliddljkbfaaGreatDoor
