import Derived.Test.YtlliliddljkbfaaGreatC10
import Derived.Deep.Upon
set_option maxHeartbeats 64000000
set_option maxRecDepth 100000
namespace Go.Proofs.YtlliliddljkbfaaGreat
open Go.Proofs.Tryz (prog)
open Go.RowKit Sp
def qI(w:WD)(base:Nat)(u:Av)(l:List BY):Prop:=(u=.slice none 0 0/\l=[])\/∃g o cap,u=.slice (some ⟨g,o,none⟩) l.length cap/\base<=g/\(∃cur,w.heap[g]?=some (.cells cur 9 (0,0)))/\l.length<=cap/\(∀j x,l[j]?=some x->w.cell? ⟨g,o+j,none⟩=some (.string x))/\∀j,j<cap->(w.cell? ⟨g,o+j,none⟩).isSome=true
theorem qI.of{w:WD}{base:Nat}{u:Av}{l:List BY}(h:w.ownsRow base 9 1 u l.length (dM l)):qI w base u l:=by
 have hc:=fun g=>h.cells (g:=g);rcases h.2 with⟨rfl,hn⟩|⟨g,cap,cur,rfl,hb,hh,hl,hm,hsz,_⟩
 .exact .inl ⟨rfl,List.eq_nil_of_length_eq_zero hn⟩
 .refine .inr ⟨g,0,cap,rfl,hb,⟨cur,hh⟩,hl,fun j x hj=>?_,fun j hj=>?_⟩
  .have:=hc g rfl j (.string x) (by unfold dM;rw[List.getElem?_map,hj];rfl);rwa[Addr.add_lit]at this
  .unfold World.cell?;rw[hh];simp;omega
theorem qI.form{w:WD}{base:Nat}{u:Av}{l:List BY}(h:qI w base u l):∃a c,u=.slice a l.length c:=by
 rcases h with⟨rfl,rfl⟩|⟨g,o,cap,rfl,_⟩
 .exact⟨_,_,rfl⟩
 .exact⟨_,_,rfl⟩
theorem qI.keep{w w':WD}{base:Nat}{u:Av}{l:List BY}(h:qI w base u l)(hw:∀(k:Nat) (cur:Array Av),w.heap[k]?=some (Obj.cells cur 9 (0,0))->w'.heap[k]?=w.heap[k]?):qI w' base u l:=by
 rcases h with h|⟨g,o,cap,h1,h2,⟨cur,h3⟩,h4,h5,h6⟩
 .exact .inl h
 .have e:=hw g cur h3;exact .inr ⟨g,o,cap,h1,h2,⟨cur,by rw[e];exact h3⟩,h4,fun j x hj=>by rw[World.cell?_of_block (w:=w) (a:=⟨g,_,none⟩) e];exact h5 j x hj,fun j hj=>by rw[World.cell?_of_block (w:=w) (a:=⟨g,_,none⟩) e];exact h6 j hj⟩
theorem qI.below{w w':WD}{base:Nat}{u:Av}{l:List BY}(h:qI w base u l)(hb:Below w.heap.size w w'):qI w' base u l:=h.keep fun k _ hk=>hb.block k (Ax hk)
theorem abJ(W:WD)(a:Option Addr)(n cap:Nat)(hn:1<=n):(Instr.slice 26 (.slice a n cap) (some (.int .i64 1)) none none).run prog W=.ok (.slice (if cap=1 then a else a.map (·.add 1)) (n-1) (cap-1)) W:=by
 obtain⟨iT,h1,_,h3,_⟩:=info_str;rw[run_slice_l (P:=prog) W 26 a n cap Tryz.underlying26 .i64 1 oo oo];have e:prog.elem 26=9:=by kernel_rfl
 simp[sizeOf,typeInfo,e,h1,h3,sliced,Result.andThen]
theorem qI.head{w:WD}{base:Nat}{u:Av}{x:BY}{r:List BY}(h:qI w base u (x::r)):
  ∃g o cap u',u=.slice (some ⟨g,o,none⟩) (r.length+1) cap/\r.length+1<=cap/\w.cell? ⟨g,o,none⟩=some (.string x)/\(∀W:WD,(Instr.slice 26 (.slice (some ⟨g,o,none⟩) (r.length+1) cap) (some (.int .i64 1)) none none).run prog W=.ok u' W)/\qI w base u' r:=by
 rcases h with⟨_,h⟩|⟨g,o,cap,rfl,h2,h3,h4,h5,h6⟩
 .cases h
 .simp only[List.length_cons]at h4;refine⟨g,o,cap,_,rfl,h4,by have:=h5 0 x rfl;rwa[Nat.add_zero]at this,fun W=>abJ W _ _ _ oo,?_⟩;rw[Nat.add_sub_cancel];by_cases hc:cap=1
  .rw[if_pos hc];have hr:r=[]:=List.eq_nil_of_length_eq_zero oo;subst hr;exact .inr ⟨g,o,cap-1,rfl,h2,h3,by simp,by simp,fun j hj=>by omega⟩
  .rw[if_neg hc];refine .inr ⟨g,o+1,cap-1,by simp[Addr.add],h2,h3,oo,fun j y hj=>?_,fun j hj=>?_⟩
   .have:=h5 (j+1) y (by simpa using hj);rwa[show o+(j+1)=o+1+j by omega]at this
   .have:=h6 (j+1) oo;rwa[show o+(j+1)=o+1+j by omega]at this
theorem Ad(b:Nat):∀(vs:List Av) (o:Nat) (w:WD),(w.setCells b o vs).tape=w.tape
 |[],_,_=>rfl
 |v::r,o,w=>by rw[World.setCells,Ad b r (o+1)];rfl
theorem size_setCells(b:Nat):∀(vs:List Av) (o:Nat) (w:WD),(w.setCells b o vs).heap.size=w.heap.size
 |[],_,_=>rfl
 |v::r,o,w=>by rw[World.setCells,size_setCells b r (o+1)];simp[World.setCell]
theorem yS(b:Nat)(T:TypeId):∀(vs:List Av) (o:Nat) (w:WD) (cur:Array Av),w.heap[b]?=some (.cells cur T (0,0))->∃cur',(w.setCells b o vs).heap[b]?=some (.cells cur' T (0,0))
 |[],_,_,cur,h=>⟨cur,h⟩
 |v::r,o,w,cur,h=>by rw[World.setCells];exact yS b T r (o+1) _ _ (bQ w b o cur T (0,0) v h)
structure aiE(base:Nat)(w w':WD):Prop where
 below:Below base w w'
 oth:∀k,k<w.heap.size->(∀cur,w.heap[k]?≠some (.cells cur 9 (0,0)))->w'.heap[k]?=w.heap[k]?
theorem KG{w:WD}{ops:Array Oper}{rest:List Oper}{o:Oper}{a:Act}{Q:Exit->Act->WD->Prop}(hgd:o.guard=none)(s x:Operand)
  (ho:o.op=.call { callee:=.builtin .append,args:=#[s,x],argTypes:=#[26,26] })
  (base:Nat) (u:Av) (l:List BY) (hs:a.eval s=u) (hq:qI w base u l) (xv:Av) (news:List BY) (hx:a.eval x=xv) {b2:Nat} (hrow:w.ownsRow b2 9 1 xv news.length (dM news)) (anG:l.length+news.length<=1000000000) (hbase:base<=w.heap.size)
  (hK:∀v' w',qI w' base v' (l++news)->aiE base w w'->wpList prog ops Q rest (a.put o.dst v') w'):wpList prog ops Q (o::rest) a w:=by
 obtain⟨iS,hi,hz,hsz,hby⟩:=info_str;have hnl:(dM news).length=news.length*1:=by unfold dM;simp
 have h1c:∀v∈dM news,v.oneCell'=true:=by intro v hv;obtain⟨b,_,rfl⟩:=List.mem_map.1 hv;rfl
 by_cases hne:news=[]
 .subst hne;have hsrc:Src prog iS.size 26 xv 0 [] w:=by
   rw[hsz];rcases qU hrow with⟨rfl,_⟩|⟨g,c,rfl,_⟩
   .exact Src.ofNil w Tryz.underlying26 0
   .exact Src.ofSlice w Tryz.underlying26 ⟨g,0,none⟩ 0 c [] rfl Aa Aa
  obtain⟨ua,uc,hu,hle⟩:∃ua uc,u=.slice ua l.length uc/\l.length<=uc:=by
   rcases hq with⟨rfl,rfl⟩|⟨g,o',cap,rfl,_,_,h4,_⟩
   .exact⟨none,0,rfl,Nat.le_refl _⟩
   .exact⟨_,_,rfl,h4⟩
  refine wpList_plain hgd fun K hK'=>?_;have hrun:=run_append_nothing (P:=prog) w 26 26 o.type 9 iS Tryz.underlying26 hi ua l.length uc hle xv hsrc;have hK2:=hK u w (by rw[List.append_nil];exact hq) ⟨As,fun _ _ _=>rfl⟩;rw[hu]at hs hK2;unfold Oper.wp;simp[execOp,ho,resolve,invoke,builtin,hs,hx,hrun,Result.andThen];exact hK' _ _ hK2
 .have hpos:0<news.length:=by
   cases news with
   |nil=>exact absurd rfl hne
   |cons _ _=>simp
  rcases qU hrow with⟨_,e⟩|⟨g2,c2,rfl,hc2⟩
  .exact absurd e hne
  .have grow:∀v' w',w'.ownsRow w.heap.size 9 1 v' (l.length+news.length) (dM l++dM news)->w.grownBy w' none->wpList prog ops Q rest (a.put o.dst v') w':=by
    intro v' w' hr hg;refine hK v' w' (qI.of (DV (b':=base) ?_ hbase)) ⟨⟨hg.os,hg.tape,hg.output,hg.size,fun k hk=>hg.block k oo Aa⟩,fun k hk _=>hg.block k hk Aa⟩;have e:dM (l++news)=dM l++dM news:=by unfold dM;rw[List.map_append]
    rw[e,List.length_append];exact hr
   rcases hq with⟨rfl,rfl⟩|⟨g,o',cap,rfl,h2,⟨cur,h3⟩,h4,h5,h6⟩
   .refine wpList_append_grows w hgd s x 26 ho 9 iS (.string ⟨#[]⟩) 1 16 Tryz.underlying26 hi hz hsz hby rfl oo none 0 0 [] hs (fun _=>⟨rfl,rfl⟩) rfl (fun b hb=>by cases hb) ⟨g2,0,none⟩ news.length c2 (dM news) hx hnl hc2 h1c oo Ao oo ?_;intro v' w' hr hg;exact grow v' w' (by simpa[dM]using hr) hg
   .refine wpList_append_arg w hgd s x 26 ho 9 iS (.string ⟨#[]⟩) 1 16 Tryz.underlying26 hi hz hsz hby rfl oo g o' l.length cap (dM l) hs (by unfold dM;simp) (fun j v hj=>?_) ⟨g2,0,none⟩ news.length c2 (dM news) hx hnl hc2 h1c (fun hle j hj=>?_) Ao oo (fun hle=>?_) (fun _ v' w' hr hg=>grow v' w' hr hg)
    .unfold dM at hj;rw[List.getElem?_map]at hj;cases hlj:l[j]? with
     |none=>rw[hlj]at hj;cases hj
     |some y=>rw[hlj]at hj;cases hj;exact h5 j y hlj
    .rw[hnl]at hj;refine⟨?_,by unfold World.frozen?;rw[h3];simp⟩;have:=h6 (l.length+j) oo;rwa[show o'+(l.length+j)=o'+l.length*1+j by omega]at this
    .have hsome:∀j,j<(dM news).length->(w.cell? ⟨g,o'+l.length*1+j,none⟩).isSome=true:=fun j hj=>by
      rw[hnl]at hj;have:=h6 (l.length+j) oo;rwa[show o'+(l.length+j)=o'+l.length*1+j by omega]at this
     have hin:=World.cell?_setCells_in g (dM news) (o'+l.length*1) w hsome;have hout:=World.cell?_setCells_out g (dM news) (o'+l.length*1) w;have hoth:∀k,k<w.heap.size->k≠g->(w.setCells g (o'+l.length*1) (dM news)).heap[k]?=w.heap[k]?:=fun k hk hkg=>World.heap_setCells_other w g _ _ hk hkg;refine hK _ _ (.inr ⟨g,o',cap,by rw[List.length_append],h2,yS g _ _ _ _ cur h3,by rw[List.length_append];exact hle,fun j y hj=>?_,fun j hj=>?_⟩) ⟨⟨World.os_setCells _ _ _ _,Ad _ _ _ _,World.output_setCells _ _ _ _,by rw[size_setCells];exact Nat.le_refl _,fun k hk=>hoth k oo oo⟩,fun k hk hcur=>hoth k hk (fun e=>hcur cur (e ▸ h3))⟩
     .by_cases hjl:j<l.length
      .rw[List.getElem?_append_left hjl]at hj;rw[hout ⟨g,o'+j,none⟩ (fun _ _=>Or.inl (by show o'+j<o'+l.length*1;omega))];exact h5 j y hj
      .rw[List.getElem?_append_right oo]at hj;have hjn:j-l.length<(dM news).length:=by
        have:=(List.getElem?_eq_some_iff.1 hj).1;rw[hnl];omega
       have h7:=hin (j-l.length) hjn;rw[show o'+l.length*1+(j-l.length)=o'+j by omega]at h7;rw[h7];have h8:(dM news)[j-l.length]?=some (.string y):=by unfold dM;rw[List.getElem?_map,hj];rfl
       rw[List.getElem?_eq_getElem hjn]at h8;exact h8
     .by_cases hjn:l.length<=j/\j<l.length+(dM news).length
      .have h7:=hin (j-l.length) oo;rw[show o'+l.length*1+(j-l.length)=o'+j by omega]at h7;rw[h7];rfl
      .rw[hout ⟨g,o'+j,none⟩ (fun _ _=>by show o'+j<o'+l.length*1\/o'+l.length*1+(dM news).length<=o'+j;omega)];exact h6 j hj
section
open Go.ChangeMaps (setBlock)
def Ea(S:BY->Nat)(n:BY):BY->Nat:=fun x=>if x=n then S n+1 else S x
def unS(U:List BY)(S:BY->Nat):Nat:=(U.filter (fun x=>S x==0)).length
theorem akq(U:List BY)(S:BY->Nat):unS U S<=U.length:=List.length_filter_le _ _
theorem UL(U:List BY)(S:BY->Nat)(n:BY):unS U (Ea S n)<=unS U S:=by
 unfold unS;induction U with
 |nil=>exact Nat.le_refl _
 |cons x r ih=>
  rw[List.filter_cons,List.filter_cons];by_cases h:S x=0
  .rw[if_pos (show(S x==0)=true by simp[h])];split
   .simp only[List.length_cons];omega
   .simp only[List.length_cons];omega
  .have h2:Ea S n x≠0:=by unfold Ea;split<;>omega
   rw[if_neg (show ¬(S x==0)=true by simp[h]),if_neg (show ¬(Ea S n x==0)=true by simp[h2])];exact ih
theorem afi(U:List BY)(S:BY->Nat)(n:BY)(hn:n∈U)(h0:S n=0):unS U (Ea S n)+1<=unS U S:=by
 induction U with
 |nil=>cases hn
 |cons x r ih=>
  have hm:=UL r S n;unfold unS at *;rw[List.filter_cons,List.filter_cons];by_cases e:x=n
  .have h2:Ea S n x≠0:=by unfold Ea;rw[if_pos e];omega
   rw[if_pos (show(S x==0)=true by rw[e];simp[h0]),if_neg (show ¬(Ea S n x==0)=true by simp[h2])];simp only[List.length_cons];omega
  .have hr:n∈r:=by
    rcases List.mem_cons.1 hn with h|h
    .exact absurd h.symm e
    .exact h
   have ih':=ih hr;have h2:Ea S n x=S x:=by unfold Ea;rw[if_neg e]
   rw[h2];split
   .simp only[List.length_cons];omega
   .exact ih'
structure XV(nb:BY->List BY)(q:BY)(U:List BY)(M T:Nat)(S:BY->Nat)(l:List BY)(gg:Nat):Prop where
 way:∀x∈l,Sp.Way nb q x
 ne:∀x,S x≠0->x≠q
 cl:∀y,(y=q\/S y≠0)->∀z∈nb y,z∈l\/S z≠0
 inU:∀x∈l,x∈U
 ms:unS U S*(M+1)+l.length<=gg
 cnt:∀x,S x+gg<=T
section
variable {nb:BY->List BY} {q:BY} {U:List BY} {M T:Nat} {S:BY->Nat} {l r:List BY} {n:BY} {gg:Nat}
theorem XV.start(hU:∀y,∀z∈nb y,z∈U)(hM:∀y,(nb y).length<=M):XV nb q U M (U.length*(M+1)+M) (fun _=>0) (nb q) (U.length*(M+1)+M):=by
 refine⟨fun x hx=>.one hx,fun x h=>absurd rfl h,fun y hy z hz=>?_,hU q,?_,fun x=>by omega⟩
 .rcases hy with rfl|h
  .exact .inl hz
  .exact absurd rfl h
 .have h1:=Nat.mul_le_mul_right (M+1) (akq U (fun _=>0));have h2:=hM q;omega
theorem XV.cnt'(h:XV nb q U M T S (n::r) gg):∀x,Ea S n x+(gg-1)<=T:=by intro x;have h1:=h.cnt x;have h2:=h.cnt n;have h3:=h.ms;simp only[List.length_cons]at h3;unfold Ea;split<;>omega
theorem XV.fresh(h:XV nb q U M T S (n::r) gg)(hU:∀y,∀z∈nb y,z∈U)(hM:∀y,(nb y).length<=M)(hq:n≠q)(h0:S n=0):XV nb q U M T (Ea S n) (r++nb n) (gg-1):=by
 have am5:=h.way n Aa;have hs:∀z,S z≠0->Ea S n z≠0:=fun z hz=>by unfold Ea;split<;>omega
 have hn:Ea S n n≠0:=by unfold Ea;rw[if_pos rfl];omega
 refine⟨fun x hx=>?_,fun x hx=>?_,fun y hy z hz=>?_,fun x hx=>?_,?_,h.cnt'⟩
 .rcases List.mem_append.1 hx with hx|hx
  .exact h.way x (by simp[hx])
  .exact .more am5 hx
 .by_cases e:x=n
  .rw[e];exact hq
  .exact h.ne x (by unfold Ea at hx;rwa[if_neg e]at hx)
 .by_cases e:y=n
  .subst e;exact .inl (by simp[hz])
  .have hy':y=q\/S y≠0:=hy.imp id fun hh=>by unfold Ea at hh;rwa[if_neg e]at hh
   rcases h.cl y hy' z hz with h1|h1
   .rcases List.mem_cons.1 h1 with rfl|h1
    .exact .inr hn
    .exact .inl (by simp[h1])
   .exact .inr (hs z h1)
 .rcases List.mem_append.1 hx with hx|hx
  .exact h.inU x (by simp[hx])
  .exact hU n x hx
 .have h1:=Nat.mul_le_mul_right (M+1) (afi U S n (h.inU n Aa) h0);rw[Nat.add_mul,Nat.one_mul]at h1;have h2:=hM n;have h3:=h.ms;simp only[List.length_cons,List.length_append]at h3⊢;omega
theorem XV.old(h:XV nb q U M T S (n::r) gg)(hq:n≠q)(h0:S n≠0):XV nb q U M T (Ea S n) r (gg-1):=by
 have hs:∀z,S z≠0->Ea S n z≠0:=fun z hz=>by unfold Ea;split<;>omega
 have hb:∀z,Ea S n z≠0->S z≠0:=fun z hz=>by
  by_cases e:z=n
  .rw[e];exact h0
  .unfold Ea at hz;rwa[if_neg e]at hz
 refine⟨fun x hx=>h.way x (by simp[hx]),fun x hx=>h.ne x (hb x hx),fun y hy z hz=>?_,fun x hx=>h.inU x (by simp[hx]),?_,h.cnt'⟩
 .rcases h.cl y (hy.imp id (hb y)) z hz with h1|h1
  .rcases List.mem_cons.1 h1 with rfl|h1
   .exact .inr (hs _ h0)
   .exact .inl h1
  .exact .inr (hs z h1)
 .have h1:=Nat.mul_le_mul_right (M+1) (UL U S n);have h3:=h.ms;simp only[List.length_cons]at h3;omega
theorem XV.done(h:XV nb q U M T S [] gg):¬Sp.Way nb q q:=by
 have key:∀x,Sp.Way nb q x->S x≠0:=by
  intro x hx;induction hx with
  |one hb=>exact(h.cl q (.inl rfl) _ hb).resolve_left Aa
  |more _ hc ih=>exact(h.cl _ (.inr ih) _ hc).resolve_left Aa
 exact fun hw=>h.ne q (key q hw) rfl
end
def sD(w:WD)(b:Nat)(S:BY->Nat):Prop:=∃m,pY 9 w b m/\∀s:BY,(m (.string s)).getD (.int .i64 0)=.int .i64 (S s:Int)
theorem sD.lt{w:WD}{b:Nat}{S:BY->Nat}(h:sD w b S):b<w.heap.size:=by obtain⟨m,h1,_⟩:=h;exact h1.lt
theorem sD.keep{w w':WD}{b:Nat}{S:BY->Nat}(h:sD w b S)(he:w'.heap[b]?=w.heap[b]?):sD w' b S:=by obtain⟨m,h1,h2⟩:=h;exact⟨m,h1.keep he,h2⟩
theorem sD.not{w:WD}{b:Nat}{S:BY->Nat}(h:sD w b S)(cur:Array Av)(T:TypeId):w.heap[b]?≠some (.cells cur T (0,0)):=by obtain⟨m,⟨es,c,h1,_⟩,_⟩:=h;rw[h1];exact fun e=>by cases e
theorem afj(w:WD):(zeroValue 3).run prog w=.ok (.int .i64 0) w:=by kernel_rfl
theorem sD.look{w:WD}{b:Nat}{S:BY->Nat}{s:BY}(h:sD w b S)(hs:s.size<=4000000):(Instr.lookup 258 (.map (some b)) (.string s) false).run prog w=.ok (.int .i64 (S s:Int)) w:=by obtain⟨m,h1,h2⟩:=h;have hk:=h1.look1 qO Tryz.underlying258 (afj w) (zo hs);rw[h2 s]at hk;exact hk
theorem sD.upd{w:WD}{b:Nat}{S:BY->Nat}{s:BY}(h:sD w b S)(hs:s.size<=4000000):
  ∃o,(Instr.mapUpdate 258 (.map (some b)) (.string s) (.int .i64 ((S s:Int)+1))).run prog w=.ok () (setBlock w b o)/\sD (setBlock w b o) b (Ea S s):=by
 obtain⟨m,h1,h2⟩:=h;open Classical in
 obtain⟨o,hr,hm'⟩:=h1.upd (m':=fun q=>if q=.string s then some (.int .i64 ((S s:Int)+1)) else m q) qO Tryz.underlying258 (zo hs) (if_pos rfl) (fun q hq=>if_neg hq);refine⟨o,hr,_,hm',fun x=>?_⟩;unfold Ea;by_cases e:x=s
 .subst e;rw[if_pos rfl,if_pos rfl];rfl
 .rw[if_neg e];show((if Value.string x=.string s then some (.int .i64 ((S s:Int)+1)) else m (.string x)).getD (.int .i64 0):Av)=_;rw[if_neg (fun hh=>e (JU hh))];exact h2 x
theorem qB{w:WD}{b k:Nat}{o:Obj}(h:k≠b):(setBlock w b o).heap[k]?=w.heap[k]?:=by show(w.heap.setIfInBounds b o)[k]?=_;rw[Array.getElem?_setIfInBounds_ne (fun e=>h e.symm)]
theorem Gp{w:WD}{b B:Nat}{o:Obj}(h:B<=b):Below B w (setBlock w b o):=⟨rfl,rfl,rfl,by show _<=(w.heap.setIfInBounds b o).size;simp,fun k hk=>qB oo⟩
structure NiI(w:WD)(pv wv kv:Av)(sb:Nat)(u:Av)(l:List BY)(S:BY->Nat)(wr:WD):Prop where
 below:Below w.heap.size w wr
 k:K3 wr w.heap.size pv wv kv
 s:sD wr sb S
 q:qI wr w.heap.size u l
theorem NiI.next{w:WD}{pv wv kv:Av}{sb:Nat}{u:Av}{l:List BY}{S:BY->Nat}{wr w':WD}(h:NiI w pv wv kv sb u l S wr)(hb:Below wr.heap.size wr w'):NiI w pv wv kv sb u l S w':=⟨h.below.trans (hb.mono h.below.size),h.k.below hb,h.s.keep (hb.block _ h.s.lt),h.q.below hb⟩
theorem NiI.grow{w:WD}{pv wv kv:Av}{sb:Nat}{u u':Av}{l l':List BY}{S:BY->Nat}{wr w':WD}(h:NiI w pv wv kv sb u l S wr)(hg:aiE w.heap.size wr w')(hq:qI w' w.heap.size u' l'):NiI w pv wv kv sb u' l' S w':=by
 refine⟨h.below.trans hg.below,?_,h.s.keep (hg.oth _ h.s.lt fun cur=>h.s.not cur _),hq⟩;show _=_;rw[hg.oth _ h.k.lt (fun cur e=>by
  have h2:wr.heap[w.heap.size]?=_:=h.k;rw[h2]at e;injection Option.some.inj e with _ e5 _
  exact absurd e5 (by decide))]
 exact h.k
theorem NiI.mark{w:WD}{pv wv kv:Av}{sb:Nat}{u:Av}{l:List BY}{S S':BY->Nat}{wr:WD}{o:Obj}(h:NiI w pv wv kv sb u l S wr)(hsb:w.heap.size<sb)(hs:sD (setBlock wr sb o) sb S'):NiI w pv wv kv sb u l S' (setBlock wr sb o):=by
 refine⟨h.below.trans (Gp oo),?_,hs,h.q.keep fun k cur hk=>qB (fun e=>?_)⟩
 .show _=_;rw[qB oo];exact h.k
 .subst e;exact h.s.not cur _ hk
theorem Md(B:Nat)(p:aI)(a:Option Addr)(cap:Nat)(wa:Option Addr)(wc:Nat)(bs:List Nat)(kb:Nat)(F:Nat->BY->Option jS)(lp:Nat->BY->Bool)(e:Nat)(s:BY)(w:WD)(h:lV B w p a cap wa wc bs kb F lp)(hs:s.size<=4000000)(he:e<p.length)
  (U:List BY) (hUl:U.length<=50000) (hU:∀q,∀z∈yO (kJ F) e q,z∈U/\z.size<=4000000) (hF:∀q x,F e q=some x->dL x.val<=12000) (hlp:lp e s=true↔Sp.Way (yO (kJ F) e) s s):
  Calls prog 103 #[.agg #[.slice a p.length cap,.slice wa bs.length wc,.map (some kb)],.int .i64 (e:Int),.string s] w
   fun ex w'=>ex=.returned (.bool (custom s&&lp e s))/\Below w.heap.size w w':=by
 have hmm:=@run_makeMap prog;have B0:Hid (Below w.heap.size w (w.alloc (.cells #[.slice a p.length cap,.slice wa bs.length wc,.map (some kb)] 77))):=As.alloc nl _;have K0:Hid (K3 (w.alloc (.cells #[.slice a p.length cap,.slice wa bs.length wc,.map (some kb)] 77)) w.heap.size (.slice a p.length cap) (.slice wa bs.length wc) (.map (some kb))):=K3.new _ _ _ _;have HC:Hid (∀wx,Below w.heap.size w wx->lV B wx p a cap wa wc bs kb F lp):=fun wx hb=>h.below hb;have HFx:=hid hF;obtain⟨nb,Gi⟩:=Nm (yO (kJ F) e);rw[Gi.o]at hU hlp;have HU:=hid hU;have HU1:Hid (∀y,∀z∈nb y,z∈U):=fun y z hz=>(hU y z hz).1;have HM:Hid (∀y,(nb y).length<=12000):=by
  intro y;rw[<-Gi.o];cases hfy:F e y with
  |none=>rw[DW hfy];simp
  |some x=>rw[yR hfy];exact Nat.le_trans (DT _) (hF y x hfy)
 have HLP:=hid hlp;clear h hF hU hlp;obtain⟨z,Hz⟩:=Nm (custom s);rw[Hz.o];go_in;go_wp2_with fail;generalize hw0:w.alloc (.cells #[.slice a p.length cap,.slice wa bs.length wc,.map (some kb)] 77)=w0 at *;have hs0:w0.heap.size=w.heap.size+1:=by rw[<-hw0];simp
 clear hw0;refine(rE s w0).mono ?_;rw[Hz.o];rintro ex wq ⟨rfl,hwq⟩;rw[hwq];clear hwq;cases z
 .go_wp2_with fail;go_ret;exact⟨rfl,B0.o⟩
 .have M1:Hid (pY 9 (w0.alloc (.map #[] 0)) w0.heap.size (fun _=>none)):=pY.new _ _;have X1:Hid (Below w0.heap.size w0 (w0.alloc (.map #[] 0))):=As.alloc nl _;go_upto_region 4 with fail
  generalize w0.alloc (.map #[] 0)=w1 at *;obtain⟨sb,Hsb⟩:=Nm (w.heap.size+1);have hsb:=Hsb.o;have al8:w.heap.size<sb:=oo;have S1:Hid (sD w1 sb (fun _=>0)):=by have q:=M1.o;rw[show w0.heap.size=sb by omega]at q;exact⟨_,q,fun _=>rfl⟩
  have K1:=hid (K0.o.below X1.o);have B1:=hid (B0.o.trans (X1.o.mono oo));rw[Hsb.o];clear X1 K0 M1;obtain⟨k0,k1,k2⟩:=K1.o.cs;have HN:=hid (KF B p a cap wa wc bs kb F lp e s w1 (HC.o w1 B1.o) hs he (HFx.o s));rw[Gi.o]at HN;go_wp2_with fail;refine HN.o.mono ?_;rintro ex w2 ⟨⟨u,rfl,hrow⟩,hb2⟩;have hs1:=B1.o.size;have I2:Hid (NiI w (.slice a p.length cap) (.slice wa bs.length wc) (.map (some kb)) sb u (nb s) (fun _=>0) w2):=⟨B1.o.trans (hb2.mono hs1),K1.o.below hb2,S1.o.keep (hb2.block _ S1.o.lt),qI.of (DV hrow hs1)⟩
  have N2:Hid (XV nb s U 12000 (U.length*(12000+1)+12000) (fun _=>0) (nb s) (U.length*(12000+1)+12000)):=XV.start HU1.o HM.o;clear hb2 hrow k0 k1 k2 K1 S1 HN;obtain⟨T,HT⟩:=Nm (U.length*(12000+1)+12000);have hT:T<=650000000:=by have:=HT.o;omega
  rw[HT.o]at N2;obtain⟨ua,uc,rfl⟩:=I2.o.q.form;go_wp2_with fail;go_loopg[8] T (fun gg v8 wr=>∃(u:Av) (l:List BY) (S:BY->Nat),u=v8/\Aside (NiI w (.slice a p.length cap) (.slice wa bs.length wc) (.map (some kb)) sb u l S wr/\XV nb s U 12000 T S l gg));case atStart=>exact⟨_,nb s,fun _=>0,rfl,I2.o,N2.o⟩
  case round=>
   obtain⟨u,l,S,rfl,hA⟩:=hrel;have I3:=hid hA.o.1;have N3:=hid hA.o.2;clear hA;cases l with
   |nil=>
    obtain⟨ua3,uc3,rfl⟩:=I3.o.q.form;have HV:Hid (lp e s=false):=by
     show _=_;cases hq:lp e s with
     |false=>rfl
     |true=>exact absurd (HLP.o.1 hq) N3.o.done
    go_wp2_with fail;go_ret;exact⟨by rw[HV.o];rfl,I3.o.below⟩
   |cons nm r=>
    obtain⟨g,o,cp,u',rfl,hcp,c0,hsl,hq'⟩:=I3.o.q.head;have h1:(0:Int)<((r.length+1:Nat):Int):=oo;have I4:Hid (NiI w (.slice a p.length cap) (.slice wa bs.length wc) (.map (some kb)) sb u' r S wr):=⟨I3.o.below,I3.o.k,I3.o.s,hq'⟩;have hnU:nm.size<=4000000:=by
     have hw:=N3.o.way nm Aa;cases hw with
     |one hb=>exact(HU.o _ _ hb).2
     |more _ hc=>exact(HU.o _ _ hc).2
    obtain⟨ua4,uc4,rfl⟩:=hq'.form;have hms:=N3.o.ms;simp only[List.length_cons]at hms;have hct:=N3.o.cnt nm;clear hq' I3;have hnm:(nm.toList==s.toList)=decide (nm=s):=bytes_beq _ _;by_cases en:nm=s
    .rw[decide_eq_true en]at hnm;have HV:Hid (lp e s=true):=HLP.o.2 (by have:=N3.o.way nm Aa;rwa[en]at this);clear en;go_wp2_with fail;go_ret;exact⟨by rw[HV.o];rfl,I4.o.below⟩
    .rw[decide_eq_false en]at hnm;have HNE:=hid en;clear en;have hlk:=I4.o.s.look hnU;obtain⟨sn,Hsn⟩:=Nm (S nm);rw[Hsn.o]at hlk;rw[Hsn.o]at hct;obtain⟨k0,k1,k2⟩:=I4.o.k.cs;by_cases h0:sn=0
     .subst h0;have HN:=hid (KF B p a cap wa wc bs kb F lp e nm wr (HC.o wr I4.o.below) hnU he (HFx.o nm));rw[Gi.o]at HN;have NF:=hid (N3.o.fresh HU1.o HM.o HNE.o Hsn.o);have hlb:r.length+(nb nm).length<=1000000000:=by have:=HM.o nm;omega
      go_wp2_with fail;refine HN.o.mono ?_;rintro ex w5 ⟨⟨u5,rfl,hrow⟩,hb5⟩;have I5:=hid (I4.o.next hb5);have R5:=hid hrow;have hs5:=I5.o.below.size;clear hb5 hrow k0 k1 k2 c0 hsl hlk HN I4;go_wp2_with(at_builtin;go_must(refine KG rfl _ _ rfl w.heap.size _ r rfl I5.o.q u5 (nb nm) rfl R5.o hlb hs5 ?_));intro v6 w6 hq6 hg6;have I6:=hid (I5.o.grow hg6 hq6);clear hq6 hg6 I5 R5;have hlk:=I6.o.s.look hnU;rw[Hsn.o]at hlk;obtain⟨ob,hup,hM⟩:=I6.o.s.upd hnU;rw[Hsn.o]at hup;have anH:(Instr.mapUpdate 258 (.map (some sb)) (.string nm) (.int .i64 1)).run prog w6=.ok () (setBlock w6 sb ob):=hup;have anI:(Instr.lookup 258 (.map (some sb)) (.string nm) false).run prog w6=.ok (.int .i64 0) w6:=hlk;have I7:=hid (I6.o.mark al8 hM);clear hM hup hlk;go_wp2_with fail;go_roundg(gk-1);case measure=>omega
      case rel=>exact⟨_,_,_,rfl,I7.o,NF.o⟩
     .have hz0:((sn:Int)==0)=false:=by rw[beq_eq_false_iff_ne];omega
      have hz1:¬(sn:Int)=0:=oo;have NF:=hid (N3.o.old HNE.o (by rw[Hsn.o];exact h0));obtain⟨ob,hup,hM⟩:=I4.o.s.upd hnU;rw[Hsn.o]at hup;have I7:=hid (I4.o.mark al8 hM);clear hM h0;have hw64:IntKind.i64.wrap ((sn:Int)+1)=(sn:Int)+1:=by rw[IntKind.wrap_i64];omega
      go_wp2_with fail;go_roundg(gk-1);case measure=>omega
      case rel=>exact⟨_,_,_,rfl,I7.o,NF.o⟩
end
section
structure InC(C B:Nat)(wa:Option Addr)(bs:List Nat)(kb:Nat):Prop where
 b:B<=C
 k:kb<C
 bs:∀x∈bs,x<C
 row:∀rb o,wa=some ⟨rb,o,none⟩->rb<C
section
variable {B:Nat} {w w':WD} {p:aI} {a:Option Addr} {cap:Nat} {wa:Option Addr} {wc:Nat} {bs:List Nat} {kb:Nat} {F:Nat->BY->Option jS} {lp:Nat->BY->Bool}
theorem lV.inC(h:lV B w p a cap wa wc bs kb F lp):InC w.heap.size B wa bs kb:=by
 refine⟨h.cas.pg.lt,h.DU.lt,fun x hx=>?_,fun rb o e=>?_⟩
 .obtain⟨i,hi,rfl⟩:=List.getElem_of_mem hx;exact(h.all i hi).lt
 .obtain⟨rb',o',e',hc⟩:=h.cas.win;rw[e]at e';cases e';have h1:=h.cas.pg.len;have h2:=h.cas.len;exact cell_lt (hc 0 oo)
theorem lV.low{C:Nat}(h:lV B w p a cap wa wc bs kb F lp)(hi:InC C B wa bs kb)(hb:Below C w w'):lV B w' p a cap wa wc bs kb F lp:=by
 obtain⟨rb,o,e,hc⟩:=h.cas.win;have hbB:Below B w w':=hb.mono hi.b;refine⟨⟨h.cas.pg.below hbB nl,⟨rb,o,e,fun i hi'=>?_⟩,h.cas.len,h.cas.cap,h.cas.nd,h.cas.lo⟩,fun i hi'=>?_,h.DU.keep (hb.block _ hi.k),h.ne,h.lo⟩
 .rw[World.cell?_of_block (w:=w) (a:=⟨rb,_,none⟩) (hb.block rb (hi.row rb o e))];exact hc i hi'
 .exact(h.all i hi').keep hbB (hb.block _ (hi.bs _ (List.getElem_mem hi')))
end
def am6(w w':WD)(r:Option (List Nd))(ex:Ending):Prop:=
 match r with
 |none=>ex=.returned (.tuple #[.slice none 0 0,.bool false])
 |some x=>∃u,ex=.returned (.tuple #[u,.bool true])/\Sl (oD w.heap.size w') w' u x
def inR(r:Option Nd)(ex:Ending):Prop:=
 match r with
 |none=>∃t:Tok,ex=.returned (.tuple #[fB t (.slice none 0 0),.bool false])
 |some m=>∃s,m=wI s/\s.size<=4000000/\ex=.returned (.tuple #[fB (Tok.w (-1) s) (.slice none 0 0),.bool true])
section
variable (B:Nat) (p:aI) (a:Option Addr) (cap:Nat) (wa:Option Addr) (wc:Nat) (bs:List Nat) (kb:Nat) (F:Nat->BY->Option jS) (lp:Nat->BY->Bool) (e:Nat)
def ahP(f:Nat)(l:List Nd):Prop:=∀(v:Av) (w:WD),Sl (fun b=>b<B) w v l->lV B w p a cap wa wc bs kb F lp ->
 Calls prog 168 #[.agg #[.slice a p.length cap,.slice wa bs.length wc,.map (some kb)],.int .i64 (e:Int),v] w fun ex w'=>(∃r,Ex p (kJ F) lp e f l r/\am6 w w' r ex)/\kX w' kb p F lp/\Turn kb w w'
def al9(f:Nat)(n:Nd):Prop:=∀(kv:Av) (w:WD),Sl (fun b=>b<B) w kv n.kids->lV B w p a cap wa wc bs kb F lp ->
 Calls prog 233 #[.agg #[.slice a p.length cap,.slice wa bs.length wc,.map (some kb)],.int .i64 (e:Int),fB n.t kv] w fun ex w'=>(∃r,En p (kJ F) lp e f n r/\inR r ex)/\kX w' kb p F lp/\Turn kb w w'
end
def KH(w:WD)(b:Nat)(x0 x1 x2 x3:Av):WD:=(((w.setCell ⟨b,0,none⟩ x0).setCell ⟨b,1,none⟩ x1).setCell ⟨b,2,none⟩ x2).setCell ⟨b,3,none⟩ x3
theorem VB.KH{w:WD}{b:Nat}{y0 y1 y2 y3:Av}(h:VB w b y0 y1 y2 y3)(x0 x1 x2 x3:Av):VB (KH w b x0 x1 x2 x3) b x0 x1 x2 x3:=by have h1:=bQ w b 0 _ _ _ x0 h;have h2:=bQ _ b 1 _ _ _ x1 h1;have h3:=bQ _ b 2 _ _ _ x2 h2;exact bQ _ b 3 _ _ _ x3 h3
theorem VB.ama{w:WD}{b:Nat}{y0 y1 y2 y3:Av}(h:VB w b y0 y1 y2 y3)(x3:Av):VB (w.setCell ⟨b,3,none⟩ x3) b y0 y1 y2 x3:=bQ w b 3 _ _ _ x3 h
theorem ni(w:WD)(b:Nat)(x0 x1 x2 x3:Av){k:Nat}(h:k≠b):(KH w b x0 x1 x2 x3).heap[k]?=w.heap[k]?:=by unfold KH;rw[Below.heap_setCell _ _ _ _ h,Below.heap_setCell _ _ _ _ h,Below.heap_setCell _ _ _ _ h,Below.heap_setCell _ _ _ _ h]
theorem UM(w:WD)(b:Nat)(x0 x1 x2 x3:Av):Below b w (KH w b x0 x1 x2 x3):=((((Below.refl b w).setCell (p:=⟨b,0,none⟩) nl _).setCell (p:=⟨b,1,none⟩) nl _).setCell (p:=⟨b,2,none⟩) nl _).setCell (p:=⟨b,3,none⟩) nl _
structure RpI(B:Nat)(w:WD)(p:aI)(a:Option Addr)(cap:Nat)(wa:Option Addr)(wc:Nat)(bs:List Nat)(kb:Nat)(F:Nat->BY->Option jS)(lp:Nat->BY->Bool)(u:Av)(acc:List Nd)(wr:WD):Prop where
 k:K3 wr w.heap.size (.slice a p.length cap) (.slice wa bs.length wc) (.map (some kb))
 c:lV B wr p a cap wa wc bs kb F lp
 m:Ei 199 (w.heap.size+1) wr u acc
 t:Turn kb w wr
 o:InC w.heap.size B wa bs kb
section
variable {B:Nat} {w wr w':WD} {p:aI} {a:Option Addr} {cap:Nat} {wa:Option Addr} {wc:Nat} {bs:List Nat} {kb:Nat} {F:Nat->BY->Option jS} {lp:Nat->BY->Bool} {u:Av} {acc:List Nd}
theorem RpI.turn(h:RpI B w p a cap wa wc bs kb F lp u acc wr)(hk:kb<w.heap.size)(ht:Turn kb wr w')(hn:kX w' kb p F lp):RpI B w p a cap wa wc bs kb F lp u acc w':=⟨(show _=_ from(ht.block _ h.k.lt oo).trans h.k),h.c.turn ht hn,h.m.keep ht.size fun g hg hl=>ht.block g hl oo,h.t.trans ht,h.o⟩
theorem RpI.grown{u':Av}{acc':List Nd}(h:RpI B w p a cap wa wc bs kb F lp u acc wr)(hb:Below (w.heap.size+1) wr w')(hm:Ei 199 (w.heap.size+1) w' u' acc'):RpI B w p a cap wa wc bs kb F lp u' acc' w':=by have ht:Turn kb w w':=⟨hb.os.trans h.t.os,hb.tape.trans h.t.tape,hb.output.trans h.t.output,Nat.le_trans h.t.size hb.size,fun g hg hne=>(hb.block g oo).trans (h.t.block g hg hne)⟩;exact⟨(show _=_ from(hb.block _ oo).trans h.k),h.c.low h.o (hb.mono oo),hm,ht,h.o⟩
end
theorem EX{kb:Nat}{w w':WD}(h:Turn kb w w'){b:Nat}(hb:w.heap.size<=b)(x0 x1 x2 x3:Av):Turn kb w (KH w' b x0 x1 x2 x3):=⟨h.os,h.tape,h.output,Nat.le_trans h.size (UM w' b x0 x1 x2 x3).size,fun g hg hne=>(ni w' b x0 x1 x2 x3 oo).trans (h.block g hg hne)⟩
theorem NW{kb:Nat}{w w':WD}(h:Turn kb w w'){b:Nat}(hb:w.heap.size<=b)(o:Nat)(x:Av):Turn kb w (w'.setCell ⟨b,o,none⟩ x):=⟨h.os,h.tape,h.output,Nat.le_trans h.size ((Below.refl b w').setCell (p:=⟨b,o,none⟩) nl x).size,fun g hg hne=>(Below.heap_setCell _ _ _ _ (by show g≠b;omega)).trans (h.block g hg hne)⟩
theorem akr{s:BY}(h:s.size<=4000000):dI (wI s).t:=by
 unfold wI Tok.w;refine⟨h,?_,?_,?_,?_,?_⟩
 .show(0:Nat)<=1000;omega
 .intro e;exact absurd e (show ¬((-1:Int)=5) by decide)
 .intro e;exact absurd e (show ¬((-1:Int)=7) by decide)
 .intro e;exact absurd e (show ¬((-1:Int)=15) by decide)
 .intro e;exact absurd e (show ¬((-1:Int)=4\/(-1:Int)=10\/(-1:Int)=11\/(-1:Int)=14) by decide)
theorem aiF(w:WD)(x0 x1 x2 x3:Av)(T:TypeId):∀j u,[x0,x1,x2,x3][j]?=some u->(w.alloc (.cells #[x0,x1,x2,x3] T)).cell? ((⟨w.heap.size,0,none⟩:Addr).add j)=some u:=Vu w x0 x1 x2 x3 T
theorem XW(B:Nat)(p:aI)(a:Option Addr)(cap:Nat)(wa:Option Addr)(wc:Nat)(bs:List Nat)(kb:Nat)(F:Nat->BY->Option jS)(lp:Nat->BY->Bool)(e f:Nat)(l:List Nd)
  (hk:∀n∈l,kD n.t=false->∃g,ahP B p a cap wa wc bs kb F lp e g n.kids/\∀r,Ex p (kJ F) lp e g n.kids r->En p (kJ F) lp e f n (r.map (fun k=>.mk n.t k)))
  (hi:∀n∈l,kD n.t=true->al9 B p a cap wa wc bs kb F lp e f n):ahP B p a cap wa wc bs kb F lp e f l:=by
 intro v w h hC;have FU:=h.len;have HS:=hid h;have HKK:=hid hk;have HII:=hid hi;have hkl:=hC.DU.lt;have hlo:=hC.lo;have am7:=hid hC.inC;obtain⟨va,vc,rfl⟩:=h.form;have B0:Hid (Below w.heap.size w (w.alloc (.cells #[.slice a p.length cap,.slice wa bs.length wc,.map (some kb)] 77))):=As.alloc nl _;have K0:Hid (K3 (w.alloc (.cells #[.slice a p.length cap,.slice wa bs.length wc,.map (some kb)] 77)) w.heap.size (.slice a p.length cap) (.slice wa bs.length wc) (.map (some kb))):=K3.new _ _ _ _;have C0:=hid (hC.below B0.o);clear h hk hi hC;obtain⟨iT,hiT⟩:=yZ;have HI:Hid (prog.info? 199=some iT/\iT.zero=some (.agg #[.int .i64 0,.string ⟨#[]⟩,.string ⟨#[]⟩,.slice none 0 0])/\iT.size=4/\iT.bytes=64):=hiT;clear hiT
 go_in;go_wp2_with fail;generalize hw0:w.alloc (.cells #[.slice a p.length cap,.slice wa bs.length wc,.map (some kb)] 77)=w0 at *;have hs0:w0.heap.size=w.heap.size+1:=by rw[<-hw0];simp
 clear hw0;have I0:Hid (RpI B w p a cap wa wc bs kb F lp (.slice none 0 0) [] w0):=⟨K0.o,C0.o,Ei.nil _ _ _,Turn.of_below B0.o,am7.o⟩;go_loopg[8,14] l.length (fun gg v8 v14 wr=>∃(u:Av) (acc:List Nd) (i:Nat),u=v8/\v14=.int .i64 (i:Int)/\i+gg=l.length/\acc.length=i/\Aside (RpI B w p a cap wa wc bs kb F lp u acc wr/\Ex p (kJ F) lp e f (l.take i) (some acc)));case atStart=>exact⟨_,[],0,rfl,rfl,oo,rfl,I0.o,by rw[List.take_zero];exact Ex.nil _ _⟩
 case round=>
  obtain⟨u,acc,i,rfl,rfl,hi,hal,hA⟩:=hrel;have IR:=hid hA.o.1;have HX:=hid hA.o.2;clear hA;have hsr:w.heap.size+1<=wr.heap.size:=by have:=IR.o.k.lt;omega
  have hBW:=hid (IR.o.t.below hlo oo);obtain⟨ua,uc,rfl⟩:=IR.o.m.form;rw[hal]at IR;rw[hal];by_cases hlt:i<l.length
  .have h1:(i:Int)<(l.length:Int):=oo;obtain⟨g1,o,rfl,hL,hcap⟩:=(HS.o.below hBW.o nl).here (by rintro rfl;simp at hlt);obtain⟨kv,hN⟩:=hL.node (i:=i) hlt;have HT1:Hid (l.take (i+1)=l.take i++[l[i]]):=List.take_succ_eq_append_getElem hlt;have HT2:Hid (l=l.take i++l[i]::l.drop (i+1)):=by
    show _=_;rw[<-List.drop_eq_getElem_cons hlt,List.take_append_drop]
   have HKN:=hid (HKK.o l[i] (List.getElem_mem hlt));have HIN:=hid (HII.o l[i] (List.getElem_mem hlt));generalize l[i]=n at *;obtain⟨c0,c1,c2,c3⟩:_/\_/\_/\_:=⟨hN.c0,hN.c1,hN.c2,hN.c3⟩;have hok:=hN.ok;have VJ:=hid hok;have hw:=hok.word;obtain⟨ka,kc,rfl⟩:=hN.k.form;have HK:=hid hN.k;clear hN hL hok;have A2:Hid (VB (wr.alloc (.cells #[.int .i64 n.t.kind,.string n.t.word,.string n.t.unit,.slice ka n.kids.length kc] 199)) wr.heap.size (.int .i64 n.t.kind) (.string n.t.word) (.string n.t.unit) (.slice ka n.kids.length kc)):=VB.new _ _ _ _ _;have X2:Hid (Below wr.heap.size wr (wr.alloc (.cells #[.int .i64 n.t.kind,.string n.t.word,.string n.t.unit,.slice ka n.kids.length kc] 199))):=As.alloc nl _;go_upto_region 5 with fail
   generalize hw2:wr.alloc (.cells #[.int .i64 n.t.kind,.string n.t.word,.string n.t.unit,.slice ka n.kids.length kc] 199)=w2 at *;have hs2:w2.heap.size=wr.heap.size+1:=by rw[<-hw2];simp
   clear hw2;obtain⟨nb,Gi⟩:=Nm wr.heap.size;have hnb:=Gi.o;have T2:Hid (Turn kb wr w2):=Turn.of_below X2.o;have N2:Hid (kX w2 kb p F lp):=IR.o.c.DU.keep (X2.o.block _ oo);have K2:=hid (IR.o.k.below X2.o);have KL2:=hid (HK.o.below X2.o (by have:=IR.o.c.cas.pg.lt;omega));rw[Gi.o]at A2;rw[Gi.o];clear c0 c1 c2 c3 HK X2;obtain⟨a0,a1,a2,a3⟩:=A2.o.cs;obtain⟨kn,Hkn⟩:=Nm n.kids.length;rw[Hkn.o]at a3 A2 KL2;have wH:Hid (Calls prog 101 #[.agg #[.int .i64 n.t.kind,.string n.t.word,.string n.t.unit,.slice ka kn kc]] w2 fun e w'=>e=.returned (.bool (kD n.t))/\Below w2.heap.size w2 w'):=PY n.t ka kn kc w2 hw;obtain⟨z,Hz⟩:=Nm (kD n.t);rw[Hz.o]at wH;go_wp2_with fail;refine wH.o.mono ?_;rintro ex w3 ⟨rfl,hb3⟩;have A3:=hid (A2.o.below hb3)
   have T3:=hid (T2.o.trans (Turn.of_below hb3));have N3:Hid (kX w3 kb p F lp):=N2.o.keep (hb3.block _ N2.o.lt);have K3':=hid (K2.o.below hb3);have KL3:=hid (KL2.o.below hb3 (by have:=IR.o.c.cas.pg.lt;omega));have hs3:=hb3.size;clear hb3 a0 a1 a2 a3 A2 T2 N2 K2 KL2 wH;obtain⟨a0,a1,a2,a3⟩:=A3.o.cs;obtain⟨k0,k1,k2⟩:=K3'.o.cs;cases z
   .obtain⟨gf,hrep,hen⟩:=HKN.o Hz.o;have Vf:=hid hen;have sH:=hid (hrep _ w3 KL3.o (IR.o.c.turn T3.o N3.o));clear hrep hen;go_wp2_with fail;refine sH.o.mono ?_;rintro ex w4 ⟨⟨r,hex,hrr⟩,UN,ZC⟩;have HEX:=hid (Vf.o r hex);have A4:Hid (VB w4 nb (.int .i64 n.t.kind) (.string n.t.word) (.string n.t.unit) (.slice ka kn kc)):=A3.o.turn ZC oo;have T4:=hid (T3.o.trans ZC);have N4:=hid UN;have hs4:=ZC.size;have K4:Hid (K3 w4 w.heap.size (.slice a p.length cap) (.slice wa bs.length wc) (.map (some kb))):=(show _=_ from(ZC.block _ K3'.o.lt oo).trans K3'.o);clear UN ZC hex a0 a1 a2 a3 k0 k1 k2 A3 T3 N3 K3' KL3 sH Vf;obtain⟨a0,a1,a2,a3⟩:=A4.o.cs;have f3:=A4.o.fz 3;cases r with
    |none=>
     have aks:ex=_:=hrr;subst aks;have T5:Hid (Turn kb wr (w4.setCell ⟨nb,3,none⟩ (.slice none 0 0))):=NW T4.o oo _ _;have N5:Hid (kX (w4.setCell ⟨nb,3,none⟩ (.slice none 0 0)) kb p F lp):=N4.o.keep (Below.heap_setCell _ _ _ _ (by show kb≠nb;omega));have I5:=hid (IR.o.turn hkl T5.o N5.o);have HE:Hid (Ex p (kJ F) lp e f l none):=by rw[HT2.o];exact HX.o.stop HEX.o
     go_wp2_with fail;go_ret2
     exact⟨⟨none,HE.o,rfl⟩,I5.o.c.DU,I5.o.t⟩
    |some ks=>
     obtain⟨u4,rfl,hu4⟩:=hrr;obtain⟨qa,qc,rfl⟩:=hu4.form;have HU4:=hid hu4;clear hu4;obtain⟨qn,Hqn⟩:=Nm ks.length;rw[Hqn.o]at HU4;rw[Hqn.o];have A5:Hid (VB (w4.setCell ⟨nb,3,none⟩ (.slice qa qn qc)) nb (.int .i64 n.t.kind) (.string n.t.word) (.string n.t.unit) (.slice qa qn qc)):=A4.o.ama _;have T5:Hid (Turn kb wr (w4.setCell ⟨nb,3,none⟩ (.slice qa qn qc))):=NW T4.o oo _ _;have N5:Hid (kX (w4.setCell ⟨nb,3,none⟩ (.slice qa qn qc)) kb p F lp):=N4.o.keep (Below.heap_setCell _ _ _ _ (by show kb≠nb;omega));have I5:=hid (IR.o.turn hkl T5.o N5.o)
     have U5:Hid (Sl (oD wr.heap.size (w4.setCell ⟨nb,3,none⟩ (.slice qa qn qc))) (w4.setCell ⟨nb,3,none⟩ (.slice qa qn qc)) (.slice qa qn qc) ks):=HU4.o.keep (fun g hg=>⟨by have:=hg.1;omega,by have:=hg.2;simpa[World.setCell]using this⟩) fun g hg=>Below.heap_setCell _ _ _ _ (by show g≠nb;have:=hg.1;omega);go_upto_region 9 with fail
     generalize w4.setCell ⟨nb,3,none⟩ (.slice qa qn qc)=w5 at *;have hs5:wr.heap.size<=w5.heap.size:=T5.o.size;clear a0 a1 a2 a3 f3 A4 T4 N4 K4 HU4;obtain⟨a0,a1,a2,a3⟩:=A5.o.cs;have M6:∀ob,Hid (Ei 199 (w.heap.size+1) (w5.alloc ob) (.slice ua i uc) acc):=fun ob=>I5.o.m.alloc ob;have S6:∀ob,Hid (Sl (DZ (w.heap.size+1) (w5.alloc ob) (.slice ua i uc)) (w5.alloc ob) (.slice qa qn qc) ks):=fun ob=>IR.o.m.apart U5.o hsr Aa (fun g hg=>Below.heap_alloc _ _ _ hg);obtain⟨cs,hown,pX⟩:=(M6 (.cells #[.int .i64 n.t.kind,.string n.t.word,.string n.t.unit,.slice qa qn qc] 199)).o;rw[hal]at hown;have HO:=hid hown;have Wx:=hid pX;clear hown pX
     go_wp2_with(at_builtin;go_must(refine wpList_append_own_at _ rfl _ _ 128 rfl (w.heap.size+1) 199 iT (.agg #[.int .i64 0,.string ⟨#[]⟩,.string ⟨#[]⟩,.slice none 0 0]) 4 64 Tryz.underlying128 HI.o.1 HI.o.2.1 HI.o.2.2.1 HI.o.2.2.2 rfl oo (.slice ua i uc) i cs rfl HO.o ⟨w5.heap.size,0,none⟩ 1 1 [.int .i64 n.t.kind,.string n.t.word,.string n.t.unit,.slice qa qn qc] rfl rfl (aiF _ _ _ _ _ _) (by simp[Value.oneCell']) Ao oo Al ?_));intro v7 w7 wM Es _ afk;have Q7:∀rr,Value.ownBlock (.slice ua i uc)=some rr->w.heap.size+1<=rr:=fun rr hr=>(HO.o.lt rr hr).1;have hb7:Below (w.heap.size+1) w5 w7:=(As.alloc oo _).grown Es Al Q7;have KI:w7.ownsRow (w.heap.size+1) 199 4 v7 (acc.length+1) (cs++[.int .i64 n.t.kind,.string n.t.word,.string n.t.unit,.slice qa qn qc]):=by rw[hal];exact wM
     have M7:Hid (Ei 199 (w.heap.size+1) w7 v7 (acc++[.mk n.t ks])):=Ei.snoc (n:=.mk n.t ks) Wx.o (S6 _).o VJ.o KI Es (by simpa using afk);have I7:=hid (I5.o.grown hb7 M7.o);have HE:Hid (Ex p (kJ F) lp e f (l.take (i+1)) (some (acc++[.mk n.t ks]))):=by rw[HT1.o];exact HX.o.snoc HEX.o
     clear wM KI Es afk Q7 hb7 M7 M6 S6;go_wp2_with fail;go_roundg(gk-1);case measure=>omega
     case rel=>exact⟨_,_,i+1,rfl,by congr 1,oo,by simp[hal],I7.o,HE.o⟩
   .have sH:Hid (Calls prog 233 #[.agg #[.slice a p.length cap,.slice wa bs.length wc,.map (some kb)],.int .i64 (e:Int),.agg #[.int .i64 n.t.kind,.string n.t.word,.string n.t.unit,.slice ka kn kc]] w3 fun ex w'=>(∃r,En p (kJ F) lp e f n r/\inR r ex)/\kX w' kb p F lp/\Turn kb w3 w'):=HIN.o Hz.o _ w3 KL3.o (IR.o.c.turn T3.o N3.o);go_wp2_with fail;refine sH.o.mono ?_;rintro ex w4 ⟨⟨r,hex,hrr⟩,UN,ZC⟩;have HEX:=hid hex;have A4:Hid (VB w4 nb (.int .i64 n.t.kind) (.string n.t.word) (.string n.t.unit) (.slice ka kn kc)):=A3.o.turn ZC oo;have T4:=hid (T3.o.trans ZC);have N4:=hid UN;have hs4:=ZC.size;have K4:Hid (K3 w4 w.heap.size (.slice a p.length cap) (.slice wa bs.length wc) (.map (some kb))):=(show _=_ from(ZC.block _ K3'.o.lt oo).trans K3'.o);clear UN ZC hex a0 a1 a2 a3 k0 k1 k2 A3 T3 N3 K3' KL3 sH;obtain⟨a0,a1,a2,a3⟩:=A4.o.cs
    have f0:=A4.o.fz 0;have f1:=A4.o.fz 1;have f2:=A4.o.fz 2;have f3:=A4.o.fz 3;cases r with
    |none=>
     obtain⟨t,rfl⟩:=hrr;unfold fB;have T5:Hid (Turn kb wr ((((w4.setCell ⟨nb,0,none⟩ (.int .i64 t.kind)).setCell ⟨nb,1,none⟩ (.string t.word)).setCell ⟨nb,2,none⟩ (.string t.unit)).setCell ⟨nb,3,none⟩ (.slice none 0 0))):=EX T4.o oo _ _ _ _;have N5:Hid (kX ((((w4.setCell ⟨nb,0,none⟩ (.int .i64 t.kind)).setCell ⟨nb,1,none⟩ (.string t.word)).setCell ⟨nb,2,none⟩ (.string t.unit)).setCell ⟨nb,3,none⟩ (.slice none 0 0)) kb p F lp):=N4.o.keep (ni w4 nb _ _ _ _ (show kb≠nb by omega));have I5:=hid (IR.o.turn hkl T5.o N5.o);have HE:Hid (Ex p (kJ F) lp e f l none):=by rw[HT2.o];exact HX.o.stop HEX.o
     go_wp2_with fail;go_ret2
     exact⟨⟨none,HE.o,rfl⟩,I5.o.c.DU,I5.o.t⟩
    |some m=>
     obtain⟨s,rfl,hsz,amb⟩:=hrr;have am8:ex=.returned (.tuple #[.agg #[.int .i64 (-1),.string s,.string ⟨#[]⟩,.slice none 0 0],.bool true]):=amb;subst am8;clear amb;have A5:Hid (VB ((((w4.setCell ⟨nb,0,none⟩ (.int .i64 (-1))).setCell ⟨nb,1,none⟩ (.string s)).setCell ⟨nb,2,none⟩ (.string ⟨#[]⟩)).setCell ⟨nb,3,none⟩ (.slice none 0 0)) nb (.int .i64 (-1)) (.string s) (.string ⟨#[]⟩) (.slice none 0 0)):=A4.o.KH _ _ _ _;have T5:Hid (Turn kb wr ((((w4.setCell ⟨nb,0,none⟩ (.int .i64 (-1))).setCell ⟨nb,1,none⟩ (.string s)).setCell ⟨nb,2,none⟩ (.string ⟨#[]⟩)).setCell ⟨nb,3,none⟩ (.slice none 0 0))):=EX T4.o oo _ _ _ _
     have N5:Hid (kX ((((w4.setCell ⟨nb,0,none⟩ (.int .i64 (-1))).setCell ⟨nb,1,none⟩ (.string s)).setCell ⟨nb,2,none⟩ (.string ⟨#[]⟩)).setCell ⟨nb,3,none⟩ (.slice none 0 0)) kb p F lp):=N4.o.keep (ni w4 nb _ _ _ _ (show kb≠nb by omega));have I5:=hid (IR.o.turn hkl T5.o N5.o);go_upto_region 9 with fail
     generalize((((w4.setCell ⟨nb,0,none⟩ (.int .i64 (-1))).setCell ⟨nb,1,none⟩ (.string s)).setCell ⟨nb,2,none⟩ (.string ⟨#[]⟩)).setCell ⟨nb,3,none⟩ (.slice none 0 0))=w5 at *;have hs5:wr.heap.size<=w5.heap.size:=T5.o.size;clear a0 a1 a2 a3 f0 f1 f2 f3 A4 T4 N4 K4;obtain⟨a0,a1,a2,a3⟩:=A5.o.cs;have M6:∀ob,Hid (Ei 199 (w.heap.size+1) (w5.alloc ob) (.slice ua i uc) acc):=fun ob=>I5.o.m.alloc ob;obtain⟨cs,hown,pX⟩:=(M6 (.cells #[.int .i64 (-1),.string s,.string ⟨#[]⟩,.slice none 0 0] 199)).o;rw[hal]at hown;have HO:=hid hown;have Wx:=hid pX;clear hown pX
     go_wp2_with(at_builtin;go_must(refine wpList_append_own_at _ rfl _ _ 128 rfl (w.heap.size+1) 199 iT (.agg #[.int .i64 0,.string ⟨#[]⟩,.string ⟨#[]⟩,.slice none 0 0]) 4 64 Tryz.underlying128 HI.o.1 HI.o.2.1 HI.o.2.2.1 HI.o.2.2.2 rfl oo (.slice ua i uc) i cs rfl HO.o ⟨w5.heap.size,0,none⟩ 1 1 [.int .i64 (-1),.string s,.string ⟨#[]⟩,.slice none 0 0] rfl rfl (aiF _ _ _ _ _ _) (by simp[Value.oneCell']) Ao oo Al ?_));intro v7 w7 wM Es _ afk;have Q7:∀rr,Value.ownBlock (.slice ua i uc)=some rr->w.heap.size+1<=rr:=fun rr hr=>(HO.o.lt rr hr).1;have hb7:Below (w.heap.size+1) w5 w7:=(As.alloc oo _).grown Es Al Q7;have KI:w7.ownsRow (w.heap.size+1) 199 4 v7 (acc.length+1) (cs++[.int .i64 (-1),.string s,.string ⟨#[]⟩,.slice none 0 0]):=by rw[hal];exact wM
     have M7:Hid (Ei 199 (w.heap.size+1) w7 v7 (acc++[wI s])):=Ei.snoc (n:=wI s) Wx.o (Sl.nil _ _) (akr hsz) KI Es (by simpa using afk);have I7:=hid (I5.o.grown hb7 M7.o);have HE:Hid (Ex p (kJ F) lp e f (l.take (i+1)) (some (acc++[wI s]))):=by rw[HT1.o];exact HX.o.snoc HEX.o
     clear wM KI Es afk Q7 hb7 M7 M6;go_wp2_with fail;go_roundg(gk-1);case measure=>omega
     case rel=>exact⟨_,_,i+1,rfl,by congr 1,oo,by simp[hal],I7.o,HE.o⟩
  .have h1:(l.length:Int)<=(i:Int):=oo;have HE:Hid (Ex p (kJ F) lp e f l (some acc)):=by
    have q:=HX.o;rwa[List.take_of_length_le (show l.length<=i by omega)]at q
   have HSL:Hid (Sl (oD w.heap.size wr) wr (.slice ua i uc) acc):=(IR.o.m.sl oo).keep (fun g hg=>⟨by have:=hg.1;omega,hg.2⟩) fun _ _=>rfl;go_wp2_with fail;go_ret2
   exact⟨⟨some acc,HE.o,_,rfl,HSL.o⟩,IR.o.c.DU,IR.o.t⟩
end
section
attribute [local go_sem] bI bJ aX aY
def XY(r:Option (List Nd)):BY:=match r with|none=>aA|some x=>Sp.written x
section
variable (B:Nat) (p:aI) (a:Option Addr) (cap:Nat) (wa:Option Addr) (wc:Nat) (bs:List Nat) (kb:Nat) (F:Nat->BY->Option jS) (lp:Nat->BY->Bool) (e:Nat)
def akt(f:Nat)(l:List Nd):Prop:=∀(v:Av) (w:WD),Sl (fun b=>b<B) w v l->lV B w p a cap wa wc bs kb F lp ->
 Calls prog 104 #[.agg #[.slice a p.length cap,.slice wa bs.length wc,.map (some kb)],.int .i64 (e:Int),v] w fun ex w'=>(∃r,Ex p (kJ F) lp e f l r/\ex=.returned (.tuple #[.string (XY r),.bool r.isSome]))/\kX w' kb p F lp/\Turn kb w w'
def DX(e:Int)(nm:BY):Prop:=∀(w:WD),lV B w p a cap wa wc bs kb F lp ->
 Calls prog 37 #[.agg #[.slice a p.length cap,.slice wa bs.length wc,.map (some kb)],.int .i64 e,.string nm] w fun ex w'=>(∃t,ex=.returned (.string t)/\CvI p (kJ F) lp e nm t)/\kX w' kb p F lp/\Turn kb w w'
end
theorem UO:Sp.written []=aA:=by unfold Sp.written l9;rfl
theorem afl(B:Nat)(p:aI)(a:Option Addr)(cap:Nat)(wa:Option Addr)(wc:Nat)(bs:List Nat)(kb:Nat)(F:Nat->BY->Option jS)(lp:Nat->BY->Bool)(e f:Nat)(l:List Nd)
  (hrep:ahP B p a cap wa wc bs kb F lp e f l) (hz:∀x,Ex p (kJ F) lp e f l (some x)->dL x<=549755813888):akt B p a cap wa wc bs kb F lp e f l:=by
 intro v w h hC;have HS:=hid h;have HRP:=hid hrep;have HZ:=hid hz;have hkl:=hC.DU.lt;have hBw:=hC.cas.pg.lt;obtain⟨va,vc,rfl⟩:=h.form;have B0:Hid (Below w.heap.size w (w.alloc (.cells #[.slice a p.length cap,.slice wa bs.length wc,.map (some kb)] 77))):=As.alloc nl _;have K0:Hid (K3 (w.alloc (.cells #[.slice a p.length cap,.slice wa bs.length wc,.map (some kb)] 77)) w.heap.size (.slice a p.length cap) (.slice wa bs.length wc) (.map (some kb))):=K3.new _ _ _ _;have C0:=hid (hC.below B0.o);clear h hrep hz hC;obtain⟨ln,Hln⟩:=Nm l.length;rw[Hln.o]at HS;rw[Hln.o];go_in;go_wp2_with fail
 generalize w.alloc (.cells #[.slice a p.length cap,.slice wa bs.length wc,.map (some kb)] 77)=w0 at *;obtain⟨k0,k1,k2⟩:=K0.o.cs;have sH:=hid (HRP.o _ w0 (HS.o.below B0.o hBw) C0.o);go_wp2_with fail;refine sH.o.mono ?_;rintro ex w1 ⟨⟨r,hex,hrr⟩,amc,ht1⟩;have T1:Hid (Turn kb w w1):=(Turn.of_below B0.o).trans ht1;have N1:=hid amc;have HEX:=hid hex;clear amc ht1 hex k0 k1 k2 sH;cases r with
 |none=>
  have aks:ex=_:=hrr;subst aks;have HV:=hid (uq [] w1.heap.size (.slice none 0 0) w1 (Sl.nil _ _) nl (by simp[dL]));rw[UO]at HV;go_wp2_with fail;refine HV.o.mono ?_;rintro ex w2 ⟨rfl,hb2⟩;have T2:=hid (T1.o.trans (Turn.of_below hb2));have N2:=hid (N1.o.keep (hb2.block _ N1.o.lt));clear hb2;go_wp2_with fail;go_ret2
  exact⟨⟨none,HEX.o,rfl⟩,N2.o,T2.o⟩
 |some x=>
  obtain⟨u,rfl,hu⟩:=hrr;obtain⟨qa,qc,rfl⟩:=hu.form;have HU:Hid (Sl (fun b=>b<w1.heap.size) w1 (.slice qa x.length qc) x):=hu.keep (fun _ hg=>hg.2) fun _ _=>rfl;have HV:=hid (uq x w1.heap.size _ w1 HU.o nl (HZ.o x HEX.o));clear hu;obtain⟨qn,Hqn⟩:∃x',Hid (x.length=x'):=⟨_,hid rfl⟩;rw[Hqn.o]at HV;rw[Hqn.o];obtain⟨tx,Gv⟩:∃x',Hid (Sp.written x=x'):=⟨_,hid rfl⟩;rw[Gv.o]at HV;go_wp2_with fail;refine HV.o.mono ?_;rintro ex w2 ⟨rfl,hb2⟩;have T2:=hid (T1.o.trans (Turn.of_below hb2));have N2:=hid (N1.o.keep (hb2.block _ N1.o.lt));clear hb2;go_wp2_with fail;go_ret2
  exact⟨⟨some x,HEX.o,by rw[<-Gv.o];rfl⟩,N2.o,T2.o⟩
structure IpI(B:Nat)(w:WD)(p:aI)(a:Option Addr)(cap:Nat)(wa:Option Addr)(wc:Nat)(bs:List Nat)(kb:Nat)(F:Nat->BY->Option jS)(lp:Nat->BY->Bool)(x0 x1 x2 x3:Av)(wr:WD):Prop where
 k:K3 wr w.heap.size (.slice a p.length cap) (.slice wa bs.length wc) (.map (some kb))
 v:VB wr (w.heap.size+1) x0 x1 x2 x3
 r:VB wr (w.heap.size+1+1) (.int .i64 0) (.string ⟨#[]⟩) (.string ⟨#[]⟩) (.slice none 0 0)
 c:lV B wr p a cap wa wc bs kb F lp
 t:Turn kb w wr
section
variable {B:Nat} {w wr w':WD} {p:aI} {a:Option Addr} {cap:Nat} {wa:Option Addr} {wc:Nat} {bs:List Nat} {kb:Nat} {F:Nat->BY->Option jS} {lp:Nat->BY->Bool} {x0 x1 x2 x3:Av}
theorem IpI.turn(h:IpI B w p a cap wa wc bs kb F lp x0 x1 x2 x3 wr)(hk:kb<w.heap.size)(ht:Turn kb wr w')(hn:kX w' kb p F lp):IpI B w p a cap wa wc bs kb F lp x0 x1 x2 x3 w':=⟨(show _=_ from(ht.block _ h.k.lt oo).trans h.k),h.v.turn ht oo,h.r.turn ht oo,h.c.turn ht hn,h.t.trans ht⟩
theorem IpI.next(h:IpI B w p a cap wa wc bs kb F lp x0 x1 x2 x3 wr)(hk:kb<w.heap.size)(hb:Below wr.heap.size wr w'):IpI B w p a cap wa wc bs kb F lp x0 x1 x2 x3 w':=h.turn hk (Turn.of_below hb) (h.c.below hb).DU
end
theorem ZE{p:aI}{V:Nat->BY->Option (List Nd)}{lp:Nat->BY->Bool}{e:Nat}{q t:BY}(h:CvI p V lp (e:Int) q t):Cv p V lp e q t:=by unfold CvI at h;rw[if_neg oo]at h;exact h
theorem afm(w:WD)(x0 x1 x2 y0 y1 y2 y3:Av):
  K3 (((w.alloc (.cells #[x0,x1,x2] 77)).alloc (.cells #[y0,y1,y2,y3] 199)).alloc (.cells #[.int .i64 0,.string ⟨#[]⟩,.string ⟨#[]⟩,.slice none 0 0] 199)) w.heap.size x0 x1 x2 /\
  VB (((w.alloc (.cells #[x0,x1,x2] 77)).alloc (.cells #[y0,y1,y2,y3] 199)).alloc (.cells #[.int .i64 0,.string ⟨#[]⟩,.string ⟨#[]⟩,.slice none 0 0] 199)) (w.heap.size+1) y0 y1 y2 y3 /\
  VB (((w.alloc (.cells #[x0,x1,x2] 77)).alloc (.cells #[y0,y1,y2,y3] 199)).alloc (.cells #[.int .i64 0,.string ⟨#[]⟩,.string ⟨#[]⟩,.slice none 0 0] 199)) (w.heap.size+1+1) (.int .i64 0) (.string ⟨#[]⟩) (.string ⟨#[]⟩) (.slice none 0 0) /\
  Below w.heap.size w (((w.alloc (.cells #[x0,x1,x2] 77)).alloc (.cells #[y0,y1,y2,y3] 199)).alloc (.cells #[.int .i64 0,.string ⟨#[]⟩,.string ⟨#[]⟩,.slice none 0 0] 199)):=by
 refine⟨((K3.new w _ _ _).below (As.alloc nl _)).below (As.alloc nl _),?_,?_,((As.alloc nl _).alloc Aa _).alloc Al _⟩
 .have:=VB.new (w.alloc (.cells #[x0,x1,x2] 77)) y0 y1 y2 y3;rw[World.size_alloc]at this;exact this.alloc _
 .have:=VB.new ((w.alloc (.cells #[x0,x1,x2] 77)).alloc (.cells #[y0,y1,y2,y3] 199)) (.int .i64 0) (.string ⟨#[]⟩) (.string ⟨#[]⟩) (.slice none 0 0);rw[World.size_alloc,World.size_alloc]at this;exact this
theorem sF{kb:Nat}{w w':WD}(h:Turn kb w w'){b:Nat}(hb:w.heap.size<=b)(x0 x1 x2 x3:Av):Turn kb w ((((w'.setCell ⟨b,0,none⟩ x0).setCell ⟨b,1,none⟩ x1).setCell ⟨b,2,none⟩ x2).setCell ⟨b,3,none⟩ x3):=EX h hb x0 x1 x2 x3
theorem aku(B:Nat)(p:aI)(a:Option Addr)(cap:Nat)(wa:Option Addr)(wc:Nat)(bs:List Nat)(kb:Nat)(F:Nat->BY->Option jS)(lp:Nat->BY->Bool)(e f:Nat)(n:Nd)(hv:kD n.t=true)
  (hcom:∀nm hf fb,Gm n.kids=some (nm,hf,fb)->DX B p a cap wa wc bs kb F lp (e:Int) nm)
  (hsub:∀nm fb,Gm n.kids=some (nm,true,fb)->akt B p a cap wa wc bs kb F lp e f fb/\∀x,Ex p (kJ F) lp e f fb (some x)->(Sp.written x).size<=4000000)
  (hsz:∀q t,Cv p (kJ F) lp e q t->t.size<=4000000):al9 B p a cap wa wc bs kb F lp e (f+1) n:=by
 intro kv w h hC;have HK:=hid h;have HCO:=hid hcom;have HSB:=hid hsub;have HSZ:=hid hsz;have HVT:=hid hv;have hkl:=hC.DU.lt;have hBw:=hC.cas.pg.lt;obtain⟨ka,kc,rfl⟩:=h.form;obtain⟨kn,Hkn⟩:=Nm n.kids.length;rw[Hkn.o]at HK;rw[Hkn.o];unfold fB;obtain⟨z1,z2,z3,z4⟩:=afm w (.slice a p.length cap) (.slice wa bs.length wc) (.map (some kb)) (.int .i64 n.t.kind) (.string n.t.word) (.string n.t.unit) (.slice ka kn kc);have B0:=hid z4
 have I0:Hid (IpI B w p a cap wa wc bs kb F lp (.int .i64 n.t.kind) (.string n.t.word) (.string n.t.unit) (.slice ka kn kc) (((w.alloc (.cells #[.slice a p.length cap,.slice wa bs.length wc,.map (some kb)] 77)).alloc (.cells #[.int .i64 n.t.kind,.string n.t.word,.string n.t.unit,.slice ka kn kc] 199)).alloc (.cells #[.int .i64 0,.string ⟨#[]⟩,.string ⟨#[]⟩,.slice none 0 0] 199))):=⟨z1,z2,z3,hC.below z4,Turn.of_below z4⟩;clear h hcom hsub hsz hv hC z1 z2 z3 z4;go_in;go_upto_region 1 with fail
 generalize(((w.alloc (.cells #[.slice a p.length cap,.slice wa bs.length wc,.map (some kb)] 77)).alloc (.cells #[.int .i64 n.t.kind,.string n.t.word,.string n.t.unit,.slice ka kn kc] 199)).alloc (.cells #[.int .i64 0,.string ⟨#[]⟩,.string ⟨#[]⟩,.slice none 0 0] 199))=w0 at *;have hs0:=B0.o.size;obtain⟨a0,a1,a2,a3⟩:=I0.o.v.cs;have HRV:=hid (NV B n.kids _ w0 (HK.o.below B0.o hBw) oo);go_wp2_with fail;refine HRV.o.mono ?_;rintro ex w1 ⟨hrd,hb1⟩;have I1:=hid (I0.o.next hkl hb1);clear hb1 a0 a1 a2 a3 I0 HRV;cases hr:Gm n.kids with
 |none=>
  rw[hr]at hrd;have WJ:ex=_:=hrd;subst WJ;have Vf:=hid (En.unread (p:=p) (V:=kJ F) (lp:=lp) (e:=e) (f:=f) HVT.o hr);clear hr hrd;unfold abH;have X2:Hid (Below w1.heap.size w1 (w1.alloc (.cells #[.string ⟨#[]⟩,.bool false,.slice none 0 0] 327))):=As.alloc nl _;go_upto_region 2 with fail
  generalize w1.alloc (.cells #[.string ⟨#[]⟩,.bool false,.slice none 0 0] 327)=w2 at *;have I2:=hid (I1.o.next hkl X2.o);obtain⟨r0,r1,r2,r3⟩:=I2.o.r.cs;have f0:=I2.o.r.fz 0;have f1:=I2.o.r.fz 1;have f2:=I2.o.r.fz 2;have f3:=I2.o.r.fz 3;have N2:Hid (kX ((((w2.setCell ⟨w.heap.size+1+1,0,none⟩ (.int .i64 0)).setCell ⟨w.heap.size+1+1,1,none⟩ (.string ⟨#[]⟩)).setCell ⟨w.heap.size+1+1,2,none⟩ (.string ⟨#[]⟩)).setCell ⟨w.heap.size+1+1,3,none⟩ (.slice none 0 0)) kb p F lp):=I2.o.c.DU.keep (ni w2 (w.heap.size+1+1) _ _ _ _ (show kb≠w.heap.size+1+1 by omega));have T2:=hid (sF I2.o.t (b:=w.heap.size+1+1) oo (.int .i64 0) (.string ⟨#[]⟩) (.string ⟨#[]⟩) (.slice none 0 0));go_wp2_with fail
  refine bodyPost_ret (v:=.tuple #[.agg #[.int .i64 0,.string ⟨#[]⟩,.string ⟨#[]⟩,.slice none 0 0],.bool false]) (by simp[results,Tryz.results233,go_sem,r0,r1,r2,r3]) rfl ?_;exact⟨⟨none,Vf.o,⟨0,⟨#[]⟩,⟨#[]⟩⟩,rfl⟩,N2.o,T2.o⟩
 |some x=>
  obtain⟨nm,hf,fb⟩:=x;rw[hr]at hrd;obtain⟨fv,rfl,hfv,hnm⟩:=hrd;obtain⟨fa,fc,rfl⟩:=hfv.form;have HFB:=hid hfv;have HCN:=hid (HCO.o nm hf fb hr);have HR:=hid hr;clear hr hfv;obtain⟨fl,Hfl⟩:=Nm fb.length;rw[Hfl.o]at HFB;rw[Hfl.o];unfold abH;have X2:Hid (Below w1.heap.size w1 (w1.alloc (.cells #[.string nm,.bool hf,.slice fa fl fc] 327))):=As.alloc nl _;have U2:Hid (U3 (w1.alloc (.cells #[.string nm,.bool hf,.slice fa fl fc] 327)) w1.heap.size (.string nm) (.bool hf) (.slice fa fl fc)):=U3.new _ _ _ _;go_upto_region 2 with fail
  generalize w1.alloc (.cells #[.string nm,.bool hf,.slice fa fl fc] 327)=w2 at *;obtain⟨ub,Hub⟩:=Nm w1.heap.size;have hub:=Hub.o;have hs1:=I1.o.t.size;rw[Hub.o]at U2;rw[Hub.o];have I2:=hid (I1.o.next hkl X2.o);have FB2:=hid (HFB.o.below X2.o oo);clear X2 I1 HFB;obtain⟨k0,k1,k2⟩:=I2.o.k.cs;obtain⟨q0,q1,q2⟩:=U2.o.cs;go_wp2_with fail;refine(HCN.o w2 I2.o.c).mono ?_;rintro ex w3 ⟨⟨t,rfl,hcv⟩,amd,ht3⟩;have wH:Hid (Cv p (kJ F) lp e nm t):=ZE hcv;have I3:=hid (I2.o.turn hkl ht3 amd);have Vm:Hid (U3 w3 ub (.string nm) (.bool hf) (.slice fa fl fc)):=(show _=_ from(ht3.block _ U2.o.lt oo).trans U2.o);have FB3:=hid (FB2.o.below (ht3.below I2.o.c.lo I2.o.c.cas.pg.lt) nl);clear hcv amd ht3 k0 k1 k2 q0 q1 q2 I2 U2 FB2 HCN;obtain⟨k0,k1,k2⟩:=I3.o.k.cs;obtain⟨q0,q1,q2⟩:=Vm.o.cs;by_cases ht:t=aA
  .have hte:(t.toList==[])=true:=by rw[ay];exact decide_eq_true ht
   have HCB:Hid (Cv p (kJ F) lp e nm aA):=by rw[<-ht];exact wH.o
   clear ht;cases hf with
   |false=>
    have Vf:=hid (En.none (f:=f) HVT.o HR.o HCB.o);obtain⟨r0,r1,r2,r3⟩:=I3.o.r.cs;have f0:=I3.o.r.fz 0;have f1:=I3.o.r.fz 1;have f2:=I3.o.r.fz 2;have f3:=I3.o.r.fz 3;have N9:Hid (kX ((((w3.setCell ⟨w.heap.size+1+1,0,none⟩ (.int .i64 0)).setCell ⟨w.heap.size+1+1,1,none⟩ (.string ⟨#[]⟩)).setCell ⟨w.heap.size+1+1,2,none⟩ (.string ⟨#[]⟩)).setCell ⟨w.heap.size+1+1,3,none⟩ (.slice none 0 0)) kb p F lp):=I3.o.c.DU.keep (ni w3 (w.heap.size+1+1) _ _ _ _ (show kb≠w.heap.size+1+1 by omega));have T9:=hid (sF I3.o.t (b:=w.heap.size+1+1) oo (.int .i64 0) (.string ⟨#[]⟩) (.string ⟨#[]⟩) (.slice none 0 0));go_wp2_with fail;refine bodyPost_ret (v:=.tuple #[.agg #[.int .i64 0,.string ⟨#[]⟩,.string ⟨#[]⟩,.slice none 0 0],.bool false]) (by simp[results,Tryz.results233,go_sem,r0,r1,r2,r3]) rfl ?_
    exact⟨⟨none,Vf.o,⟨0,⟨#[]⟩,⟨#[]⟩⟩,rfl⟩,N9.o,T9.o⟩
   |true=>
    obtain⟨hsb,hss⟩:=HSB.o nm fb HR.o;have sS:=hid hss;have sH:=hid (hsb _ w3 FB3.o I3.o.c);clear hsb hss;go_wp2_with fail;refine sH.o.mono ?_;rintro ex w4 ⟨⟨r,hex,rfl⟩,UN,ZC⟩;have Vf:=hid (En.back (f:=f) HVT.o HR.o HCB.o hex);have HEX:=hid hex;have I4:=hid (I3.o.turn hkl ZC UN);clear hex UN ZC k0 k1 k2 q0 q1 q2 I3 Vm FB3 sH hte;cases r with
    |none=>
     have ahQ:Hid (En p (kJ F) lp e (f+1) n none):=Vf.o;have Hst:Hid (XY none=⟨#[]⟩):=rfl;rw[Hst.o];obtain⟨r0,r1,r2,r3⟩:=I4.o.r.cs;have f0:=I4.o.r.fz 0;have f1:=I4.o.r.fz 1;have f2:=I4.o.r.fz 2;have f3:=I4.o.r.fz 3;have N9:Hid (kX ((((w4.setCell ⟨w.heap.size+1+1,0,none⟩ (.int .i64 (-1))).setCell ⟨w.heap.size+1+1,1,none⟩ (.string ⟨#[]⟩)).setCell ⟨w.heap.size+1+1,2,none⟩ (.string ⟨#[]⟩)).setCell ⟨w.heap.size+1+1,3,none⟩ (.slice none 0 0)) kb p F lp):=I4.o.c.DU.keep (ni w4 (w.heap.size+1+1) _ _ _ _ (show kb≠w.heap.size+1+1 by omega));have T9:=hid (sF I4.o.t (b:=w.heap.size+1+1) oo (.int .i64 (-1)) (.string ⟨#[]⟩) (.string ⟨#[]⟩) (.slice none 0 0));go_wp2_with fail
     refine bodyPost_ret (v:=.tuple #[.agg #[.int .i64 (-1),.string ⟨#[]⟩,.string ⟨#[]⟩,.slice none 0 0],.bool false]) (by simp[results,Tryz.results233,go_sem,r0,r1,r2,r3]) rfl ?_;exact⟨⟨none,ahQ.o,⟨-1,⟨#[]⟩,⟨#[]⟩⟩,rfl⟩,N9.o,T9.o⟩
    |some x=>
     have ahQ:Hid (En p (kJ F) lp e (f+1) n (some (wI (Sp.written x)))):=Vf.o;have hwz:=sS.o x HEX.o;obtain⟨tx,Gv⟩:∃x',Hid (Sp.written x=x'):=⟨_,hid rfl⟩;have Hst:Hid (XY (some x)=tx):=Gv.o;rw[Gv.o]at ahQ hwz;rw[Hst.o];obtain⟨r0,r1,r2,r3⟩:=I4.o.r.cs;have f0:=I4.o.r.fz 0;have f1:=I4.o.r.fz 1;have f2:=I4.o.r.fz 2;have f3:=I4.o.r.fz 3;have N9:Hid (kX ((((w4.setCell ⟨w.heap.size+1+1,0,none⟩ (.int .i64 (-1))).setCell ⟨w.heap.size+1+1,1,none⟩ (.string tx)).setCell ⟨w.heap.size+1+1,2,none⟩ (.string ⟨#[]⟩)).setCell ⟨w.heap.size+1+1,3,none⟩ (.slice none 0 0)) kb p F lp):=I4.o.c.DU.keep (ni w4 (w.heap.size+1+1) _ _ _ _ (show kb≠w.heap.size+1+1 by omega));have T9:=hid (sF I4.o.t (b:=w.heap.size+1+1) oo (.int .i64 (-1)) (.string tx) (.string ⟨#[]⟩) (.slice none 0 0));go_wp2_with fail
     refine bodyPost_ret (v:=.tuple #[.agg #[.int .i64 (-1),.string tx,.string ⟨#[]⟩,.slice none 0 0],.bool true]) (by simp[results,Tryz.results233,go_sem,r0,r1,r2,r3]) rfl ?_;exact⟨⟨some (wI tx),ahQ.o,tx,rfl,hwz,rfl⟩,N9.o,T9.o⟩
  .have hte:(t.toList==[])=false:=by rw[ay];exact decide_eq_false ht
   have Vf:=hid (En.text (f:=f) HVT.o HR.o wH.o ht);have hsz:=HSZ.o nm t wH.o;clear ht;obtain⟨r0,r1,r2,r3⟩:=I3.o.r.cs;have f0:=I3.o.r.fz 0;have f1:=I3.o.r.fz 1;have f2:=I3.o.r.fz 2;have f3:=I3.o.r.fz 3;have N9:Hid (kX ((((w3.setCell ⟨w.heap.size+1+1,0,none⟩ (.int .i64 (-1))).setCell ⟨w.heap.size+1+1,1,none⟩ (.string t)).setCell ⟨w.heap.size+1+1,2,none⟩ (.string ⟨#[]⟩)).setCell ⟨w.heap.size+1+1,3,none⟩ (.slice none 0 0)) kb p F lp):=I3.o.c.DU.keep (ni w3 (w.heap.size+1+1) _ _ _ _ (show kb≠w.heap.size+1+1 by omega));have T9:=hid (sF I3.o.t (b:=w.heap.size+1+1) oo (.int .i64 (-1)) (.string t) (.string ⟨#[]⟩) (.slice none 0 0));go_wp2_with fail;refine bodyPost_ret (v:=.tuple #[.agg #[.int .i64 (-1),.string t,.string ⟨#[]⟩,.slice none 0 0],.bool true]) (by simp[results,Tryz.results233,go_sem,r0,r1,r2,r3]) rfl ?_
   exact⟨⟨some (wI t),Vf.o,t,rfl,hsz,rfl⟩,N9.o,T9.o⟩
end
section
theorem NY{a b:List Nd}(h:a.Sublist b):depth a<=depth b:=by
 induction h with
 |slnil=>exact Nat.le_refl _
 |cons x _ ih=>
  conv=>rhs;unfold depth
  omega
 |cons_cons x _ ih=>
  conv=>lhs;unfold depth
  conv=>rhs;unfold depth
  omega
theorem ahR{a b:List Nd}(h:a.Sublist b):∀x∈lW a,x∈lW b:=by
 induction h with
 |slnil=>exact fun _ h=>h
 |cons n _ ih=>intro x hx;rw[yM];exact List.mem_append_right _ (ih x hx)
 |cons_cons n _ ih=>
  intro x hx;rw[yM]at hx⊢;rcases List.mem_append.1 hx with hx|hx
  .exact List.mem_append_left _ hx
  .exact List.mem_append_right _ (ih x hx)
theorem XZ:∀(l:List Nd) (n:Nd),n∈l->∀x∈nmN n,x∈lW l
 |m::r,n,h,x,hx=>by
  rw[yM];rcases List.mem_cons.1 h with rfl|h
  .exact List.mem_append_left _ hx
  .exact List.mem_append_right _ (XZ r n h x hx)
theorem EY:∀(l:List Nd) (n:Nd),n∈l->eU n<=depth l
 |m::r,n,h=>by
  conv=>rhs;unfold depth
  rcases List.mem_cons.1 h with rfl|h
  .omega
  .have:=EY r n h;omega
theorem NZ(n:Nd):eU n=if closing n.t=aA then 0 else depth n.kids+1:=by
 cases n with
 |mk t k=>
  conv=>lhs;unfold eU
  rfl
theorem UQ{t:Tok}(h:kD t=true):closing t≠aA:=by
 unfold kD at h;simp only[Bool.and_eq_true,decide_eq_true_eq]at h;unfold closing;rw[if_pos h.1];exact fun h=>by have h2:(1:Nat)=0:=congrArg ByteArray.size h;omega
theorem UR{p:aI}{V:Nat->BY->Option (List Nd)}{lp:Nat->BY->Bool}{e f:Nat}{r:Option (List Nd)}(h:Ex p V lp e f [] r):r=some []:=by obtain⟨n,hn⟩:=h;rw[<-hn n nl];rfl
theorem UU{p:aI}{V:Nat->BY->Option (List Nd)}{lp:Nat->BY->Bool}{e f:Nat}{m:Nd}{r:Option (List Nd)}(hv:kD m.t=false)(h:Ex p V lp e f m.kids r):En p V lp e (f+1) m (r.map (fun k=>.mk m.t k)):=by
 cases r with
 |none=>exact En.ae5 hv h
 |some k=>exact En.plain hv h
theorem ZF(B:Nat)(p:aI)(a:Option Addr)(cap:Nat)(wa:Option Addr)(wc:Nat)(bs:List Nat)(kb:Nat)(F:Nat->BY->Option jS)(lp:Nat->BY->Bool)(e:Nat)(hV:∀e q v,kJ F e q=some v->dL v<=12000):∀(f:Nat) (l:List Nd),depth l<=f->gL l->Ac (Gn 12000) l<=2000000->(∀nm∈lW l,DX B p a cap wa wc bs kb F lp (e:Int) nm)->ahP B p a cap wa wc bs kb F lp e f l
 |0,l,hd,hg,_,_=>by
  have h0:∀n∈l,closing n.t=aA:=fun n hn=>by
   have h1:=EY l n hn;rw[NZ]at h1;by_cases hc:closing n.t=aA
   .exact hc
   .rw[if_neg hc]at h1;omega
  refine XW B p a cap wa wc bs kb F lp e 0 l (fun n hn hv=>?_) (fun n hn hv=>absurd (h0 n hn) (UQ hv));have hk:n.kids=[]:=((Ba n).1 ((yh l).1 hg n hn)).2.2.1 (h0 n hn);refine⟨0,?_,fun r hr=>?_⟩
  .rw[hk];exact XW B p a cap wa wc bs kb F lp e 0 [] (fun n hn=>by cases hn) (fun n hn=>by cases hn)
  .rw[hk]at hr;rw[UR hr];exact En.leaf
 |f+1,l,hd,hg,hm,hc=>by
  have ih:=ZF B p a cap wa wc bs kb F lp e hV f;have hgn:∀n∈l,gN n:=fun n hn=>(yh l).1 hg n hn;have ame:∀n∈l,depth n.kids<=f/\gL n.kids/\Ac (Gn 12000) n.kids<=2000000/\∀nm∈lW n.kids,DX B p a cap wa wc bs kb F lp (e:Int) nm:=by
   intro n hn;have h1:=EY l n hn;have h2:=(Ba n).1 (hgn n hn);have h3:=PU (Gn 12000) l n hn;rw[KA]at h3;rw[NZ]at h1;refine⟨?_,h2.2.2.2,oo,fun nm hnm=>hc nm (XZ l n hn nm (by rw[XT];exact List.mem_append_right _ hnm))⟩;by_cases hcl:closing n.t=aA
   .rw[h2.2.2.1 hcl];unfold depth;omega
   .rw[if_neg hcl]at h1;omega
  refine XW B p a cap wa wc bs kb F lp e (f+1) l (fun n hn hv=>?_) (fun n hn hv=>?_)
  .obtain⟨k1,k2,k3,k4⟩:=ame n hn;exact⟨f,ih n.kids k1 k2 k3 k4,fun r hr=>UU hv hr⟩
  .obtain⟨k1,k2,k3,k4⟩:=ame n hn;refine aku B p a cap wa wc bs kb F lp e f n hv (fun nm hf fb hr=>hc nm (XZ l n hn nm ?_)) (fun nm fb hr=>?_) (fun q t ht=>by have:=Cv.size (M:=12000) oo hV ht;omega)
   .rw[XT,if_pos hv];refine List.mem_append_left _ ?_;unfold nmV;rw[hr];simp
   .have hs:=(KD hr).1;have hmu:=PS (Gn 12000) hs;have hrep:=ih fb (Nat.le_trans (NY hs) k1) (qw k2 fun m hm=>hs.subset hm) oo fun x hx=>k4 x (ahR hs x hx);refine⟨afl B p a cap wa wc bs kb F lp e f fb hrep fun x hx=>?_,fun x hx=>?_⟩
    .have:=(Ex.size (M:=12000) oo hV hx).2;omega
    .have h1:=(Ex.size (M:=12000) oo hV hx).1;have h2:=NT x;omega
theorem ahS(B:Nat)(p:aI)(a:Option Addr)(cap:Nat)(wa:Option Addr)(wc:Nat)(bs:List Nat)(kb:Nat)(F:Nat->BY->Option jS)(lp:Nat->BY->Bool)(e:Nat)(hV:∀e q v,kJ F e q=some v->dL v<=12000)(f:Nat)(l:List Nd)(hd:depth l<=f)(hg:gL l)(hm:Ac (Gn 12000) l<=2000000)(hc:∀nm∈lW l,DX B p a cap wa wc bs kb F lp (e:Int) nm):akt B p a cap wa wc bs kb F lp e f l:=afl B p a cap wa wc bs kb F lp e f l (ZF B p a cap wa wc bs kb F lp e hV f l hd hg hm hc) fun x hx=>by have:=(Ex.size (M:=12000) oo hV hx).2;omega
def Pa(p:aI)(V:Nat->BY->Option (List Nd))(lp:Nat->BY->Bool)(e:Nat)(s t:BY):Prop:=∃n0,∀n,n0<=n->paV p (wJ p V lp n) e s=t
def Dn(p:aI)(V:Nat->BY->Option (List Nd))(lp:Nat->BY->Bool)(e:Nat)(s t:BY):Prop:=∃n0,∀n,n0<=n->dnV p (wJ p V lp n) e s=t
section
variable {p:aI} {V:Nat->BY->Option (List Nd)} {lp:Nat->BY->Bool} {e:Nat} {s t:BY}
theorem aiG(h:CvI p V lp (parentOf p e) s t):Pa p V lp e s t:=by
 unfold CvI at h;by_cases h0:parentOf p e<0
 .rw[if_pos h0]at h;refine⟨0,fun n _=>?_⟩;unfold paV;rw[if_pos h0,h]
 .rw[if_neg h0]at h;obtain⟨n0,hn⟩:=h;refine⟨n0,fun n hle=>?_⟩;unfold paV;rw[if_neg h0];exact hn n hle
theorem ahT(h:handed s=false):Dn p V lp e s aA:=⟨0,fun n _=>by unfold dnV;rw[if_neg (by rw[h];simp)]⟩
theorem amf(h:handed s=true)(k:Pa p V lp e s t):Dn p V lp e s t:=by obtain⟨n0,hn⟩:=k;exact⟨n0,fun n hle=>by unfold dnV;rw[if_pos h];exact hn n hle⟩
end
theorem aiH(s:BY):hdB s=handed s:=by unfold hdB handed ab8 aif Yu;cases custom s<;>simp
theorem nZ(B:Nat)(p:aI)(a:Option Addr)(cap:Nat)(wa:Option Addr)(wc:Nat)(bs:List Nat)(kb:Nat)(F:Nat->BY->Option jS)(lp:Nat->BY->Bool)(e:Nat)(s:BY)(w:WD)(h:lV B w p a cap wa wc bs kb F lp)(he:e<p.length)(hq:DX B p a cap wa wc bs kb F lp (parentOf p e) s):
  Calls prog 99 #[.agg #[.slice a p.length cap,.slice wa bs.length wc,.map (some kb)],.int .i64 (e:Int),.string s] w
   fun ex w'=>(∃t,ex=.returned (.string t)/\Dn p (kJ F) lp e s t)/\kX w' kb p F lp/\Turn kb w w':=by
 have B0:Hid (Below w.heap.size w (w.alloc (.cells #[.slice a p.length cap,.slice wa bs.length wc,.map (some kb)] 77))):=As.alloc nl _;have K0:Hid (K3 (w.alloc (.cells #[.slice a p.length cap,.slice wa bs.length wc,.map (some kb)] 77)) w.heap.size (.slice a p.length cap) (.slice wa bs.length wc) (.map (some kb))):=K3.new _ _ _ _;have S0:=hid (h.below B0.o);have hkl:=h.DU.lt;have HQ:=hid hq;clear h hq;obtain⟨z,Hz⟩:=Nm (hdB s);go_in;go_wp2_with fail;generalize w.alloc (.cells #[.slice a p.length cap,.slice wa bs.length wc,.map (some kb)] 77)=w0 at *;obtain⟨cb,Hcb⟩:=Nm w.heap.size;rw[Hcb.o]at K0;rw[Hcb.o];refine(JY s w0).mono ?_;rw[Hz.o]
 rintro ex wq ⟨rfl,hwq⟩;rw[hwq];clear hwq;cases z
 .have HT:Hid (Turn kb w w0):=Turn.of_below B0.o;have HD:Hid (Dn p (kJ F) lp e s aA):=ahT (by rw[<-aiH];exact Hz.o);go_wp2_with fail;go_ret;exact⟨⟨aA,rfl,HD.o⟩,S0.o.DU,HT.o⟩
 .go_wp2_with fail;refine wp_region_any An ?_;change wpAny _ _ _ _ _ _ _ (World.drew _);have sS:Hid ((fun wx:WD=>K3 wx cb (.slice a p.length cap) (.slice wa bs.length wc) (.map (some kb))) w0.drew):=K0.o;refine wpAny_of_held (S:=(fun wx:WD=>K3 wx cb (.slice a p.length cap) (.slice wa bs.length wc) (.map (some kb)))) _ _ _ _ ?_;refine dH 0 rfl sS.o (by intro w hSw;obtain⟨k0,k1,k2⟩:=K3.cs hSw;exact gs) ?_;refine dH 1 rfl sS.o (by intro w hSw;obtain⟨k0,k1,k2⟩:=K3.cs hSw;exact gs) ?_;refine dH 2 rfl sS.o (by intro w hSw;obtain⟨k0,k1,k2⟩:=K3.cs hSw;exact gs) ?_;refine dH 3 rfl sS.o (by intro w hSw;obtain⟨k0,k1,k2⟩:=K3.cs hSw;exact gs) ?_
  refine dH 5 rfl sS.o (by intro w hSw;obtain⟨k0,k1,k2⟩:=K3.cs hSw;exact gs) ?_;refine iW 4 fun K hK=>?_;go_simp;have B1:Hid (Below w.heap.size w w0.drew):=B0.o.drew;have S1:Hid (lV B w0.drew p a cap wa wc bs kb F lp):=S0.o.below (As.drew);refine(TS B p a cap e w0.drew S1.o.cas.pg he).mono ?_;rintro ex w2 ⟨rfl,hb2⟩;have B2:=hid (Ay B1.o hb2);have S2:=hid (S1.o.below hb2);have HS2:Hid ((fun wx:WD=>K3 wx cb (.slice a p.length cap) (.slice wa bs.length wc) (.map (some kb))) w2):=K3.below sS.o hb2;clear hb2;refine hK.o _ _ HS2.o (fun _=>?_);clear hK K;refine iW 6 fun K hK=>?_;go_simp;refine(HQ.o w2 S2.o).mono ?_;rintro ex w3 ⟨⟨t,rfl,hcv⟩,hk3,ht3⟩;have HD:Hid (Dn p (kJ F) lp e s t):=amf (by rw[<-aiH];exact Hz.o) (aiG hcv);clear hcv
  have HK3:=hid hk3;have HT:Hid (Turn kb w w3):=(Turn.of_below B2.o).trans ht3;have HS3:Hid ((fun wx:WD=>K3 wx cb (.slice a p.length cap) (.slice wa bs.length wc) (.map (some kb))) w3):=(show _=_ from(ht3.block cb (K3.lt HS2.o) (by have:=Hcb.o;omega)).trans HS2.o);clear hk3 ht3;refine hK.o _ _ HS3.o (fun _=>?_);clear hK K;refine dH 7 rfl HS3.o (fun _ _=>gs) ?_;refine wpAnyH_done An ?_ _;go_wp2_with fail;go_ret;exact⟨⟨t,rfl,HD.o⟩,HK3.o,HT.o⟩
end
section
section
variable {p:aI} {V:Nat->BY->Option (List Nd)} {lp:Nat->BY->Bool} {e:Nat} {s t:BY} {v:List Nd}
theorem ahU(h:V e s=none)(k:Dn p V lp e s t):Cv p V lp e s t:=by obtain⟨n0,hn⟩:=k;refine Cv.step ⟨n0,fun n hle=>?_⟩;unfold Bq;rw[h];exact hn n hle
theorem UW(h:V e s=some v)(h1:(Sp.isWord v Sp.lN||jg zB v)=true)(k:Dn p V lp e s t):Cv p V lp e s t:=by obtain⟨n0,hn⟩:=k;refine Cv.step ⟨n0,fun n hle=>?_⟩;unfold Bq;rw[h];simp only;rw[if_pos h1];exact hn n hle
theorem X8(h:V e s=some v)(h1:(Sp.isWord v Sp.lN||jg zB v)=false)(h2:Sp.isWord v Sp.jU=true)(k:Pa p V lp e s t):Cv p V lp e s t:=by obtain⟨n0,hn⟩:=k;refine Cv.step ⟨n0,fun n hle=>?_⟩;unfold Bq;rw[h];simp only;rw[if_neg (by rw[h1];simp),if_pos h2];exact hn n hle
theorem X9(h:V e s=some v)(h1:(Sp.isWord v Sp.lN||jg zB v)=false)(h2:Sp.isWord v Sp.jU=false)(h3:Sp.isWord v Sp.nInitial=true):Cv p V lp e s aA:=by refine Cv.step ⟨0,fun n hle=>?_⟩;unfold Bq;rw[h];simp only;rw[if_neg (by rw[h1];simp),if_neg (by rw[h2];simp),if_pos h3]
theorem afn(h:V e s=some v)(h1:(Sp.isWord v Sp.lN||jg zB v)=false)(h2:Sp.isWord v Sp.jU=false)(h3:Sp.isWord v Sp.nInitial=false)(h4:jg kD v=false):Cv p V lp e s (Sp.written v):=by refine Cv.step ⟨0,fun n hle=>?_⟩;unfold Bq;rw[h];simp only;rw[if_neg (by rw[h1];simp),if_neg (by rw[h2];simp),if_neg (by rw[h3];simp),if_pos h4]
theorem ahV(h:V e s=some v)(h1:(Sp.isWord v Sp.lN||jg zB v)=false)(h2:Sp.isWord v Sp.jU=false)(h3:Sp.isWord v Sp.nInitial=false)(h4:jg kD v=true)(h5:(custom s&&lp e s)=true):Cv p V lp e s aA:=by refine Cv.step ⟨0,fun n hle=>?_⟩;unfold Bq;rw[h];simp only;rw[if_neg (by rw[h1];simp),if_neg (by rw[h2];simp),if_neg (by rw[h3];simp),if_neg (by rw[h4];simp),if_pos h5]
theorem ZG(h:V e s=some v)(h1:(Sp.isWord v Sp.lN||jg zB v)=false)(h2:Sp.isWord v Sp.jU=false)(h3:Sp.isWord v Sp.nInitial=false)(h4:jg kD v=true)(h5:(custom s&&lp e s)=false){r:Option (List Nd)}(hx:Ex p V lp e 9 v r)(h6:r=none\/400<(XY r).size)(k:Dn p V lp e s t):Cv p V lp e s t:=by
 obtain⟨n0,hn⟩:=k;obtain⟨n1,hn1⟩:=hx;refine Cv.step ⟨n0+n1,fun n hle=>?_⟩;unfold Bq;rw[h];simp only;rw[if_neg (by rw[h1];simp),if_neg (by rw[h2];simp),if_neg (by rw[h3];simp),if_neg (by rw[h4];simp),if_neg (by rw[h5];simp),hn1 n oo];cases r with
 |none=>exact hn n oo
 |some x=>simp only;rw[if_pos (by rcases h6 with h6|h6;cases h6;exact h6)];exact hn n oo
theorem akv(h:V e s=some v)(h1:(Sp.isWord v Sp.lN||jg zB v)=false)(h2:Sp.isWord v Sp.jU=false)(h3:Sp.isWord v Sp.nInitial=false)(h4:jg kD v=true)(h5:(custom s&&lp e s)=false){x:List Nd}(hx:Ex p V lp e 9 v (some x))(h6:¬400<(Sp.written x).size):Cv p V lp e s (Sp.written x):=by obtain⟨n1,hn1⟩:=hx;refine Cv.step ⟨n1,fun n hle=>?_⟩;unfold Bq;rw[h];simp only;rw[if_neg (by rw[h1];simp),if_neg (by rw[h2];simp),if_neg (by rw[h3];simp),if_neg (by rw[h4];simp),if_neg (by rw[h5];simp),hn1 n oo];simp only;rw[if_neg h6]
end
theorem N7(l:List Nd)(x:BY):wdL l x=Sp.isWord l x:=by
 unfold wdL Sp.isWord;match l with
 |[]=>rfl
 |[n]=>rfl
 |_::_::_=>rfl
structure FdR(B:Nat)(w:WD)(p:aI)(a:Option Addr)(cap:Nat)(wa:Option Addr)(wc:Nat)(bs:List Nat)(kb:Nat)(F:Nat->BY->Option jS)(lp:Nat->BY->Bool)(x:jS)(va:Option Addr)(vc nb:Nat)(wr:WD):Prop where
 k:K3 wr w.heap.size (.slice a p.length cap) (.slice wa bs.length wc) (.map (some kb))
 n:Wn wr nb x (.slice va x.val.length vc)
 s:lV B wr p a cap wa wc bs kb F lp
 v:Sl (fun g=>g<B) wr (.slice va x.val.length vc) x.val
 b:Turn kb w wr
section
variable {B:Nat} {w:WD} {p:aI} {a:Option Addr} {cap:Nat} {wa:Option Addr} {wc:Nat} {bs:List Nat} {kb:Nat} {F:Nat->BY->Option jS} {lp:Nat->BY->Bool} {x:jS} {va:Option Addr} {vc nb:Nat} {wr w':WD}
theorem FdR.turn(h:FdR B w p a cap wa wc bs kb F lp x va vc nb wr)(hk:kb<w.heap.size)(hnb:kb≠nb)(ht:Turn kb wr w')(hn:kX w' kb p F lp):FdR B w p a cap wa wc bs kb F lp x va vc nb w':=⟨(show _=_ from(ht.block _ h.k.lt oo).trans h.k),(show _=_ from(ht.block _ h.n.lt (fun q=>hnb q.symm)).trans h.n),h.s.turn ht hn,Sl.below h.v (ht.below h.s.lo h.s.cas.pg.lt) nl,h.b.trans ht⟩
theorem FdR.next(h:FdR B w p a cap wa wc bs kb F lp x va vc nb wr)(hb:Below wr.heap.size wr w'):FdR B w p a cap wa wc bs kb F lp x va vc nb w':=⟨h.k.below hb,h.n.below hb,h.s.below hb,Sl.below h.v hb h.s.cas.pg.lt,h.b.trans (Turn.of_below hb)⟩
theorem FdR.drew(h:FdR B w p a cap wa wc bs kb F lp x va vc nb wr):FdR B w p a cap wa wc bs kb F lp x va vc nb wr.drew:=h.next (As.drew)
end
structure afo(v:List Nd):Prop where
 wz:dL v<=12000
 mu:Ac (Gn 12000) v<=2000000
 dp:depth v<=9
 g:gL v
theorem akw(B:Nat)(p:aI)(a:Option Addr)(cap:Nat)(wa:Option Addr)(wc:Nat)(bs:List Nat)(kb:Nat)(F:Nat->BY->Option jS)(lp:Nat->BY->Bool)(e:Nat)(s:BY)(w:WD)(h:lV B w p a cap wa wc bs kb F lp)(hs:s.size<=4000000)(he:e<p.length)(hq:DX B p a cap wa wc bs kb F lp (parentOf p e) s)
  (hF:∀e q x,F e q=some x->afo x.val) (U:List BY) (hUl:U.length<=50000) (hU:∀q,∀z∈yO (kJ F) e q,z∈U/\z.size<=4000000) (hlp:lp e s=true↔Sp.Way (yO (kJ F) e) s s)
  (hnm:(custom s&&lp e s)=false->∀nm∈yO (kJ F) e s,DX B p a cap wa wc bs kb F lp (e:Int) nm):
  Calls prog 63 #[.agg #[.slice a p.length cap,.slice wa bs.length wc,.map (some kb)],.int .i64 (e:Int),.string s] w
   fun ex w'=>(∃t,ex=.returned (.string t)/\Cv p (kJ F) lp e s t)/\kX w' kb p F lp/\Turn kb w w':=by
 have B0:Hid (Below w.heap.size w (w.alloc (.cells #[.slice a p.length cap,.slice wa bs.length wc,.map (some kb)] 77))):=As.alloc nl _;have K0:Hid (K3 (w.alloc (.cells #[.slice a p.length cap,.slice wa bs.length wc,.map (some kb)] 77)) w.heap.size (.slice a p.length cap) (.slice wa bs.length wc) (.map (some kb))):=K3.new _ _ _ _;have S0:=hid (h.below B0.o);have hkl:=h.DU.lt;have hlen:=h.cas.pg.len;have hbl:=h.cas.len;have hcw:=h.cas.cap;have HQ:=hid hq;have HFx:=hid hF;have HU:=hid hU;have HLP:=hid hlp;have HNM:=hid hnm;have am9:Hid (∀e q v,kJ F e q=some v->dL v<=12000):=by
  intro e q v hv;unfold kJ at hv;cases hf:F e q with
  |none=>rw[hf]at hv;cases hv
  |some x=>rw[hf]at hv;cases hv;exact(hF e q x hf).wz
 clear h hq hF hU hlp hnm;have heb:e<bs.length:=oo;have h1:(e:Int)<(bs.length:Int):=oo;have al2:bs.length<=30:=oo;clear hbl;go_in;go_upto_region 1 with fail
 generalize w.alloc (.cells #[.slice a p.length cap,.slice wa bs.length wc,.map (some kb)] 77)=w0 at *;obtain⟨k0,k1,k2⟩:=K0.o.cs;obtain⟨rb,ro,rfl,hcl⟩:=S0.o.cas.win;have c0:=hcl e heb;have hsz:=B0.o.size;obtain⟨m,hm,hf⟩:=S0.o.all e heb;have hlk:=hm.look qO Tryz.underlying127 (JR w0) (zo hs);have hfx:=hf s;cases hfp:F e s with
 |none=>
  rw[hfp]at hfx;have yD:m (.string s)=none:=hfx;rw[yD]at hlk;have al7:(Instr.lookup 127 (.map (some bs[e])) (.string s) true).run prog w0=.ok (.tuple #[.agg #[.string ⟨#[]⟩,.slice none 0 0,.bool false,.int .i64 0,.int .i64 0,.int .i64 0],.bool false]) w0:=hlk;have HVN:Hid (kJ F e s=none):=by show _=_;unfold kJ;rw[hfp];rfl
  clear hf hfx yD hm hcl hlk hfp;have B1:Hid (Below w0.heap.size w0 (w0.alloc (.cells #[.string ⟨#[]⟩,.slice none 0 0,.bool false,.int .i64 0,.int .i64 0,.int .i64 0] 184))):=As.alloc nl _;go_upto_region 2 with fail
  generalize w0.alloc (.cells #[.string ⟨#[]⟩,.slice none 0 0,.bool false,.int .i64 0,.int .i64 0,.int .i64 0] 184)=w1 at *;have K1:Hid (K3 w1 w.heap.size (.slice a p.length cap) (.slice (some ⟨rb,ro,none⟩) bs.length wc) (.map (some kb))):=K0.o.below B1.o;have S1:=hid (S0.o.below B1.o);have B2:=hid (B0.o.trans (B1.o.mono hsz));clear k0 k1 k2 c0 al7;obtain⟨k0,k1,k2⟩:=K1.o.cs;go_wp2_with fail;refine(nZ B p a cap _ wc bs kb F lp e s w1 S1.o he HQ.o).mono ?_;rintro ex w2 ⟨⟨t,rfl,hdn⟩,hk2,ht2⟩;have wH:=hid (ahU HVN.o hdn);have HK2:=hid hk2;have HT:Hid (Turn kb w w2):=(Turn.of_below B2.o).trans ht2;clear hk2 ht2 hdn;go_wp2_with fail;go_ret;exact⟨⟨_,rfl,wH.o⟩,HK2.o,HT.o⟩
 |some x=>
  rw[hfp]at hfx;obtain⟨epr,va,vc,yD,hxs⟩:=hfx;rw[yD]at hlk;unfold wnV at hlk;simp only[Option.getD_some,Option.isSome_some]at hlk;have HVO:=hid (HFx.o e s x hfp);have HVS:Hid (kJ F e s=some x.val):=by show _=_;unfold kJ;rw[hfp];rfl
  have HNB:Hid (yO (kJ F) e s=lW x.val):=yR hfp;have HXS:=hid hxs;clear hf yD hm hcl epr hxs hfp;have B1:Hid (Below w0.heap.size w0 (w0.alloc (.cells #[.string x.pr,.slice va x.val.length vc,.bool x.imp,.int .i64 (x.wt.1:Int),.int .i64 (x.wt.2.1:Int),.int .i64 (x.wt.2.2:Int)] 184))):=As.alloc nl _;have Y1:Hid (Wn (w0.alloc (.cells #[.string x.pr,.slice va x.val.length vc,.bool x.imp,.int .i64 (x.wt.1:Int),.int .i64 (x.wt.2.1:Int),.int .i64 (x.wt.2.2:Int)] 184)) w0.heap.size x (.slice va x.val.length vc)):=Wn.new _ _ _;go_upto_region 2 with fail
  generalize w0.alloc (.cells #[.string x.pr,.slice va x.val.length vc,.bool x.imp,.int .i64 (x.wt.1:Int),.int .i64 (x.wt.2.1:Int),.int .i64 (x.wt.2.2:Int)] 184)=w1 at *;obtain⟨nb,Gi⟩:=Nm w0.heap.size;have hnb:=Gi.o;rw[Gi.o]at Y1;rw[Gi.o];have I1:Hid (FdR B w p a cap (some ⟨rb,ro,none⟩) wc bs kb F lp x va vc nb w1):=⟨K0.o.below B1.o,Y1.o,S0.o.below B1.o,Sl.below HXS.o B1.o S0.o.cas.pg.lt,Turn.of_below (B0.o.trans (B1.o.mono hsz))⟩;clear k0 k1 k2 c0 hlk K0 Y1 S0 HXS B1;obtain⟨k0,k1,k2⟩:=I1.o.k.cs;obtain⟨n0,n1,n2,n3,n4,n5⟩:=I1.o.n.cs;have HA1:=hid (JX B x.val _ lN w1 I1.o.v);obtain⟨b1,Hb1⟩:=Nm (wdL x.val lN);rw[Hb1.o]at HA1;go_wp2_with fail;refine HA1.o.mono ?_;rintro ex w2 ⟨rfl,hb⟩;have I2:=hid (I1.o.next hb);clear hb k0 k1 k2 n0 n1 n2 n3 n4 n5 HA1 I1;cases b1
  .skip;obtain⟨k0,k1,k2⟩:=I2.o.k.cs;obtain⟨n0,n1,n2,n3,n4,n5⟩:=I2.o.n.cs;have HA2:=hid (afd x.val B _ w2 I2.o.v I2.o.s.cas.pg.lt);obtain⟨b2,Hb2⟩:=Nm (jg zB x.val);rw[Hb2.o]at HA2;go_wp2_with fail;refine HA2.o.mono ?_;rintro ex w3 ⟨rfl,hb⟩;have I3:=hid (I2.o.next hb);clear hb k0 k1 k2 n0 n1 n2 n3 n4 n5 HA2 I2;cases b2
   .have HUB:Hid ((Sp.isWord x.val Sp.lN||jg zB x.val)=false):=by
     show _=_;rw[Hb2.o,<-N7,show wdL x.val Sp.lN=false from Hb1.o];rfl
    obtain⟨k0,k1,k2⟩:=I3.o.k.cs;obtain⟨n0,n1,n2,n3,n4,n5⟩:=I3.o.n.cs;have HA3:=hid (JX B x.val _ jU w3 I3.o.v);obtain⟨b3,Hb3⟩:=Nm (wdL x.val jU);rw[Hb3.o]at HA3;go_wp2_with fail;refine HA3.o.mono ?_;rintro ex w4 ⟨rfl,hb⟩;have I4:=hid (I3.o.next hb);clear hb k0 k1 k2 n0 n1 n2 n3 n4 n5 HA3 I3;cases b3
    .have HIH:Hid (Sp.isWord x.val Sp.jU=false):=by show _=_;rw[<-N7];exact Hb3.o
     obtain⟨k0,k1,k2⟩:=I4.o.k.cs;obtain⟨n0,n1,n2,n3,n4,n5⟩:=I4.o.n.cs;have HA4:=hid (JX B x.val _ nInitial w4 I4.o.v);obtain⟨b4,Hb4⟩:=Nm (wdL x.val nInitial);rw[Hb4.o]at HA4;go_wp2_with fail;refine HA4.o.mono ?_;rintro ex w5 ⟨rfl,hb⟩;have I5:=hid (I4.o.next hb);clear hb k0 k1 k2 n0 n1 n2 n3 n4 n5 HA4 I4;cases b4
     .have HIN:Hid (Sp.isWord x.val Sp.nInitial=false):=by show _=_;rw[<-N7];exact Hb4.o
      obtain⟨k0,k1,k2⟩:=I5.o.k.cs;obtain⟨n0,n1,n2,n3,n4,n5⟩:=I5.o.n.cs;have HA5:=hid (afe x.val B _ w5 I5.o.v I5.o.s.cas.pg.lt);obtain⟨b5,Hb5⟩:=Nm (jg kD x.val);rw[Hb5.o]at HA5;go_wp2_with fail;refine HA5.o.mono ?_;rintro ex w6 ⟨rfl,hb⟩;have I6:=hid (I5.o.next hb);clear hb k0 k1 k2 n0 n1 n2 n3 n4 n5 HA5 I5;cases b5
      .have wH:=hid (afn (p:=p) (lp:=lp) HVS.o HUB.o HIH.o HIN.o Hb5.o);obtain⟨k0,k1,k2⟩:=I6.o.k.cs;obtain⟨n0,n1,n2,n3,n4,n5⟩:=I6.o.n.cs;have HVL:=hid (uq x.val B _ w6 I6.o.v I6.o.s.cas.pg.lt (by have:=HVO.o.wz;omega));go_wp2_with fail;refine HVL.o.mono ?_;rintro ex w7 ⟨rfl,hb⟩;have I7:=hid (I6.o.next hb);clear hb;go_wp2_with fail;go_ret;exact⟨⟨_,rfl,wH.o⟩,I7.o.s.DU,I7.o.b⟩
      .skip;obtain⟨k0,k1,k2⟩:=I6.o.k.cs;obtain⟨n0,n1,n2,n3,n4,n5⟩:=I6.o.n.cs;have HNI:=hid (Md B p a cap _ wc bs kb F lp e s w6 I6.o.s hs he U hUl HU.o (fun q x' hx'=>(HFx.o e q x' hx').wz) HLP.o);obtain⟨b6,Hb6⟩:=Nm ((custom s&&lp e s));rw[Hb6.o]at HNI;go_wp2_with fail;refine HNI.o.mono ?_;rintro ex w7 ⟨rfl,hb⟩;have I7:=hid (I6.o.next hb);clear hb k0 k1 k2 n0 n1 n2 n3 n4 n5 HNI I6;cases b6
       .have HSU:=hid (ahS B p a cap _ wc bs kb F lp e am9.o 9 x.val HVO.o.dp HVO.o.g HVO.o.mu (fun nm hnm=>HNM.o Hb6.o nm (by rw[HNB.o];exact hnm)) _ w7 I7.o.v I7.o.s);obtain⟨k0,k1,k2⟩:=I7.o.k.cs;obtain⟨n0,n1,n2,n3,n4,n5⟩:=I7.o.n.cs;go_wp2_with fail;refine HSU.o.mono ?_;rintro ex w8 ⟨⟨r,hex,rfl⟩,hk8,ht8⟩;have I8:=hid (I7.o.turn hkl oo ht8 hk8);have HEX:=hid hex;clear hk8 ht8 hex k0 k1 k2 n0 n1 n2 n3 n4 n5 HSU I7;obtain⟨tx,Gv⟩:=Nm (XY r);rw[Gv.o];cases r with
        |none=>obtain⟨k0,k1,k2⟩:=I8.o.k.cs;obtain⟨n0,n1,n2,n3,n4,n5⟩:=I8.o.n.cs;go_wp2_with fail;refine(nZ B p a cap _ wc bs kb F lp e s w8 I8.o.s he HQ.o).mono ?_;rintro ex wz ⟨⟨t,rfl,hdn⟩,hkz,htz⟩;have wH:=hid (ZG HVS.o HUB.o HIH.o HIN.o Hb5.o Hb6.o HEX.o (Or.inl rfl) hdn);have HKz:=hid hkz;have HT:=hid (I8.o.b.trans htz);clear hkz htz hdn;go_wp2_with fail;go_ret;exact⟨⟨_,rfl,wH.o⟩,HKz.o,HT.o⟩
        |some y=>
         by_cases hlt:400<tx.size
         .have ana:(400:Int)<(tx.size:Int):=oo;have HL4:Hid (400<(XY (some y)).size):=by rw[Gv.o];exact hlt
          obtain⟨k0,k1,k2⟩:=I8.o.k.cs;obtain⟨n0,n1,n2,n3,n4,n5⟩:=I8.o.n.cs;go_wp2_with fail;refine(nZ B p a cap _ wc bs kb F lp e s w8 I8.o.s he HQ.o).mono ?_;rintro ex wz ⟨⟨t,rfl,hdn⟩,hkz,htz⟩;have wH:=hid (ZG HVS.o HUB.o HIH.o HIN.o Hb5.o Hb6.o HEX.o (Or.inr HL4.o) hdn);have HKz:=hid hkz;have HT:=hid (I8.o.b.trans htz);clear hkz htz hdn;go_wp2_with fail;go_ret;exact⟨⟨_,rfl,wH.o⟩,HKz.o,HT.o⟩
         .have ana:(tx.size:Int)<=400:=oo;have wH:Hid (Cv p (kJ F) lp e s tx):=by
           rw[<-Gv.o];exact akv HVS.o HUB.o HIH.o HIN.o Hb5.o Hb6.o HEX.o (by show ¬400<(XY (some y)).size;rw[Gv.o];exact hlt)
          go_wp2_with fail;go_ret;exact⟨⟨_,rfl,wH.o⟩,I8.o.s.DU,I8.o.b⟩
       .have wH:=hid (ahV (p:=p) HVS.o HUB.o HIH.o HIN.o Hb5.o Hb6.o);go_wp2_with fail;go_ret;exact⟨⟨aA,rfl,wH.o⟩,I7.o.s.DU,I7.o.b⟩
     .have HIN:Hid (Sp.isWord x.val Sp.nInitial=true):=by show _=_;rw[<-N7];exact Hb4.o
      have wH:=hid (X9 (p:=p) (lp:=lp) HVS.o HUB.o HIH.o HIN.o);go_wp2_with fail;go_ret;exact⟨⟨aA,rfl,wH.o⟩,I5.o.s.DU,I5.o.b⟩
    .have HIH:Hid (Sp.isWord x.val Sp.jU=true):=by show _=_;rw[<-N7];exact Hb3.o
     go_wp2_with fail;refine wp_region_any An ?_;change wpAny _ _ _ _ _ _ _ (World.drew _);have J4:=hid (I4.o.drew);have sS:Hid ((fun wx:WD=>K3 wx w.heap.size (.slice a p.length cap) (.slice (some ⟨rb,ro,none⟩) bs.length wc) (.map (some kb))) w4.drew):=J4.o.k;refine wpAny_of_held (S:=(fun wx:WD=>K3 wx w.heap.size (.slice a p.length cap) (.slice (some ⟨rb,ro,none⟩) bs.length wc) (.map (some kb)))) _ _ _ _ ?_;refine Qp 0 rfl sS.o (by intro w hSw;obtain⟨k0,k1,k2⟩:=K3.cs hSw;exact gs) ?_;refine Qp 1 rfl sS.o (by intro w hSw;obtain⟨k0,k1,k2⟩:=K3.cs hSw;exact gs) ?_;refine Qp 2 rfl sS.o (by intro w hSw;obtain⟨k0,k1,k2⟩:=K3.cs hSw;exact gs) ?_;refine Qp 3 rfl sS.o (by intro w hSw;obtain⟨k0,k1,k2⟩:=K3.cs hSw;exact gs) ?_
     refine Qp 5 rfl sS.o (by intro w hSw;obtain⟨k0,k1,k2⟩:=K3.cs hSw;exact gs) ?_;refine iW 4 fun K hK=>?_;go_simp;refine(TS B p a cap e w4.drew J4.o.s.cas.pg he).mono ?_;rintro ex w5 ⟨rfl,hb5⟩;have I5:=hid (J4.o.next hb5);clear hb5;refine hK.o _ _ I5.o.k (fun _=>?_);clear hK K;refine iW 6 fun K hK=>?_;go_simp;refine(HQ.o w5 I5.o.s).mono ?_;rintro ex w6 ⟨⟨t,rfl,hcv⟩,hk6,ht6⟩;have wH:=hid (X8 (p:=p) (lp:=lp) HVS.o HUB.o HIH.o (aiG hcv));have WV:=hid hk6;have HT:=hid (I5.o.b.trans ht6);have HS6:Hid ((fun wx:WD=>K3 wx w.heap.size (.slice a p.length cap) (.slice (some ⟨rb,ro,none⟩) bs.length wc) (.map (some kb))) w6):=(show _=_ from(ht6.block w.heap.size (K3.lt I5.o.k) oo).trans I5.o.k);clear hk6 ht6 hcv;refine hK.o _ _ HS6.o (fun _=>?_);clear hK K
     refine Qp 7 rfl HS6.o (fun _ _=>gs) ?_;refine wpAnyH_done An ?_ _;go_wp2_with fail;go_ret;exact⟨⟨_,rfl,wH.o⟩,WV.o,HT.o⟩
   .have HUB:Hid ((Sp.isWord x.val Sp.lN||jg zB x.val)=true):=by
     show _=_;rw[Hb2.o];simp
    obtain⟨k0,k1,k2⟩:=I3.o.k.cs;obtain⟨n0,n1,n2,n3,n4,n5⟩:=I3.o.n.cs;go_wp2_with fail;refine(nZ B p a cap _ wc bs kb F lp e s w3 I3.o.s he HQ.o).mono ?_;rintro ex wz ⟨⟨t,rfl,hdn⟩,hkz,htz⟩;have wH:=hid (UW HVS.o HUB.o hdn);have HKz:=hid hkz;have HT:=hid (I3.o.b.trans htz);clear hkz htz hdn;go_wp2_with fail;go_ret;exact⟨⟨_,rfl,wH.o⟩,HKz.o,HT.o⟩
  .have HUB:Hid ((Sp.isWord x.val Sp.lN||jg zB x.val)=true):=by
    show _=_;rw[<-N7,show wdL x.val Sp.lN=true from Hb1.o];rfl
   obtain⟨k0,k1,k2⟩:=I2.o.k.cs;obtain⟨n0,n1,n2,n3,n4,n5⟩:=I2.o.n.cs;go_wp2_with fail;refine(nZ B p a cap _ wc bs kb F lp e s w2 I2.o.s he HQ.o).mono ?_;rintro ex wz ⟨⟨t,rfl,hdn⟩,hkz,htz⟩;have wH:=hid (UW HVS.o HUB.o hdn);have HKz:=hid hkz;have HT:=hid (I2.o.b.trans htz);clear hkz htz hdn;go_wp2_with fail;go_ret;exact⟨⟨_,rfl,wH.o⟩,HKz.o,HT.o⟩
end
open Go.ChangeMaps (setBlock)
theorem afp{p:aI}{V:Nat->BY->Option (List Nd)}{lp:Nat->BY->Bool}{e:Nat}{q t:BY}(h:Cv p V lp e q t):CvI p V lp (e:Int) q t:=by unfold CvI;rw[if_neg oo];exact h
theorem N8(B:Nat)(p:aI)(a:Option Addr)(cap:Nat)(wa:Option Addr)(wc:Nat)(bs:List Nat)(kb:Nat)(F:Nat->BY->Option jS)(lp:Nat->BY->Bool){e:Int}(s:BY)(he:e<0):DX B p a cap wa wc bs kb F lp e s:=by
 intro w h;have B0:Hid (Below w.heap.size w (w.alloc (.cells #[.slice a p.length cap,.slice wa bs.length wc,.map (some kb)] 77))):=As.alloc nl _;have HV:Hid (CvI p (kJ F) lp e s aA):=by unfold CvI;rw[if_pos he];exact rfl
 have HK:Hid (kX (w.alloc (.cells #[.slice a p.length cap,.slice wa bs.length wc,.map (some kb)] 77)) kb p F lp):=(h.below B0.o).DU;have HT:Hid (Turn kb w (w.alloc (.cells #[.slice a p.length cap,.slice wa bs.length wc,.map (some kb)] 77))):=Turn.of_below B0.o;clear h;go_in;go_wp2_with fail;go_ret;exact⟨⟨aA,rfl,HV.o⟩,HK.o,HT.o⟩
theorem Ya(B:Nat)(p:aI)(a:Option Addr)(cap:Nat)(wa:Option Addr)(wc:Nat)(bs:List Nat)(kb:Nat)(F:Nat->BY->Option jS)(lp:Nat->BY->Bool)(e:Nat)(s:BY)(he:e<p.length)(hs:s.size<=4000000)
  (hf:∀(w:WD),lV B w p a cap wa wc bs kb F lp->Calls prog 63 #[.agg #[.slice a p.length cap,.slice wa bs.length wc,.map (some kb)],.int .i64 (e:Int),.string s] w
   fun ex w'=>(∃t,ex=.returned (.string t)/\Cv p (kJ F) lp e s t)/\kX w' kb p F lp/\Turn kb w w'):DX B p a cap wa wc bs kb F lp (e:Int) s:=by
 intro w h;have B0:Hid (Below w.heap.size w ((w.alloc (.cells #[.slice a p.length cap,.slice wa bs.length wc,.map (some kb)] 77)).alloc (.cells #[.int .i64 (e:Int),.string s] 133))):=(As.alloc nl _).alloc Aa _;have K0:Hid (K3 ((w.alloc (.cells #[.slice a p.length cap,.slice wa bs.length wc,.map (some kb)] 77)).alloc (.cells #[.int .i64 (e:Int),.string s] 133)) w.heap.size (.slice a p.length cap) (.slice wa bs.length wc) (.map (some kb))):=(K3.new _ _ _ _).below (As.alloc nl _);have Q0:Hid (Qb ((w.alloc (.cells #[.slice a p.length cap,.slice wa bs.length wc,.map (some kb)] 77)).alloc (.cells #[.int .i64 (e:Int),.string s] 133)) (w.heap.size+1) (.int .i64 (e:Int)) (.string s)):=by have:=Qb.new (w.alloc (.cells #[.slice a p.length cap,.slice wa bs.length wc,.map (some kb)] 77)) (.int .i64 (e:Int)) (.string s);show Qb _ _ _ _;simpa using this
 have S0:=hid (h.below B0.o);have hkl:=h.DU.lt;have hlen:=h.cas.pg.len;have HFD:=hid hf;clear h hf;go_in;go_upto_region 4 with fail
 generalize(w.alloc (.cells #[.slice a p.length cap,.slice wa bs.length wc,.map (some kb)] 77)).alloc (.cells #[.int .i64 (e:Int),.string s] 133)=w0 at *;obtain⟨cb,Hcb⟩:=Nm w.heap.size;rw[Hcb.o]at K0 Q0;rw[Hcb.o];have hcb:=Hcb.o;obtain⟨k0,k1,k2⟩:=K0.o.cs;obtain⟨q0,q1⟩:=Q0.o.cs;have hsz:=B0.o.size;rcases S0.o.DU.look (e:=e) (s:=s) oo hs with⟨t,hlk,hcv⟩|hlk
 .have wH:=hid (afp hcv);clear hcv;have B1:Hid (Below w0.heap.size w0 (w0.alloc (.cells #[.string t] 135))):=As.alloc nl _;have V1:Hid (bU (w0.alloc (.cells #[.string t] 135)) w0.heap.size (.string t) 135):=bU.new _ _ _;go_upto_region 5 with fail
  generalize w0.alloc (.cells #[.string t] 135)=w1 at *;have S1:=hid (S0.o.below B1.o);have HT:Hid (Turn kb w w1):=Turn.of_below (B0.o.trans (B1.o.mono hsz));have c1:=V1.o.c;clear k0 k1 k2 q0 q1 hlk;go_wp2_with fail;go_ret;exact⟨⟨_,rfl,wH.o⟩,S1.o.DU,HT.o⟩
 .have B1:Hid (Below w0.heap.size w0 (w0.alloc (.cells #[.string ⟨#[]⟩] 135))):=As.alloc nl _;go_upto_region 5 with fail
  generalize w0.alloc (.cells #[.string ⟨#[]⟩] 135)=w1 at *;have S1:=hid (S0.o.below B1.o);have K1:=hid (K0.o.below B1.o);have Q1:=hid (Q0.o.below B1.o);have BW:=hid (B0.o.trans (B1.o.mono hsz));clear k0 k1 k2 q0 q1 hlk;obtain⟨k0,k1,k2⟩:=K1.o.cs;obtain⟨q0,q1⟩:=Q1.o.cs;go_wp2_with fail;refine(HFD.o w1 S1.o).mono ?_;rintro ex w2 ⟨⟨t,rfl,hcv⟩,hk2,ht2⟩;have wH:=hid (afp hcv);have hne1:cb≠kb:=oo;have hne2:cb+1≠kb:=oo;have K2:Hid (K3 w2 cb (.slice a p.length cap) (.slice wa bs.length wc) (.map (some kb))):=(show _=_ from(ht2.block cb (K3.lt K1.o) hne1).trans K1.o);have Q2:Hid (Qb w2 (cb+1) (.int .i64 (e:Int)) (.string s)):=(show _=_ from(ht2.block (cb+1) (Qb.lt Q1.o) hne2).trans Q1.o);have HT2:Hid (Turn kb w w2):=(Turn.of_below BW.o).trans ht2;obtain⟨o,hr,hM⟩:=hk2.upd (e:=e) (s:=s) oo hs hcv
  have hr':(Instr.mapUpdate 75 (.map (some kb)) (.agg #[.int .i64 (e:Int),.string s]) (.agg #[.string t])).run prog w2=.ok () (setBlock w2 kb o):=hr;have HM:=hid hM;have HT3:Hid (Turn kb w (setBlock w2 kb o)):=aej HT2.o;clear hk2 ht2 hr hM hcv k0 k1 k2 q0 q1;obtain⟨k0,k1,k2⟩:=K2.o.cs;obtain⟨q0,q1⟩:=Q2.o.cs;go_wp2_with fail;go_ret;exact⟨⟨_,rfl,wH.o⟩,HM.o,HT3.o⟩
mutual
theorem akx:∀(n:Nd),gN n->∀z∈nmN n,z.size<=4000000/\custom z=true
 |.mk t k,h,z,hz=>by
  simp only[gN]at h;unfold nmN at hz;rcases List.mem_append.1 hz with hz|hz
  .split at hz
   .unfold nmV at hz;split at hz
    .rename_i x hx;obtain⟨nm,hf,fb⟩:=x;rw[List.mem_singleton.1 hz];obtain⟨_,n,hn,_,e2,e3⟩:=KD hx;have:=((Ba n).1 ((yh k).1 h.2.2.2 n hn)).1.word;rw[e2]at this;exact⟨this,e3⟩
    .cases hz
   .cases hz
  .exact Yb k h.2.2.2 z hz
theorem Yb:∀(l:List Nd),gL l->∀z∈lW l,z.size<=4000000/\custom z=true
 |[],_,z,hz=>by rw[PV]at hz;cases hz
 |n::r,h,z,hz=>by
  simp only[gL]at h;rw[yM]at hz;rcases List.mem_append.1 hz with hz|hz
  .exact akx n h.1 z hz
  .exact Yb r h.2 z hz
end
theorem Yc{nb:BY->List BY}{a b:BY}(hc:∀y,∀z∈nb y,custom z=true)(h:Sp.Way nb a b):custom b=true:=by
 cases h with
 |one hb=>exact hc _ _ hb
 |more _ hb=>exact hc _ _ hb
theorem abK(B:Nat)(p:aI)(a:Option Addr)(cap:Nat)(wa:Option Addr)(wc:Nat)(bs:List Nat)(kb:Nat)(F:Nat->BY->Option jS)(lp:Nat->BY->Bool)(hF:∀e q x,F e q=some x->afo x.val)(U:Nat->List BY)(hUl:∀e,(U e).length<=50000)(hU:∀e q,∀z∈yO (kJ F) e q,z∈U e)
  (hlp:∀e s,lp e s=true↔Sp.Way (yO (kJ F) e) s s) (hp:∀i,i<p.length->parentOf p i<i):
  ∀(n:Nat) (e:Int),e<n->e<p.length->∀s,s.size<=4000000->DX B p a cap wa wc bs kb F lp e s:=by
 have hok:∀e q,∀z∈yO (kJ F) e q,z.size<=4000000/\custom z=true:=by
  intro e q z hz;cases hf:F e q with
  |none=>rw[DW hf]at hz;cases hz
  |some x=>rw[yR hf]at hz;exact Yb x.val (hF e q x hf).g z hz
 intro n;induction n with
 |zero=>intro e h _ s _;exact N8 _ _ _ _ _ _ _ _ _ _ s oo
 |succ n ih=>
  intro e h1 h2 s hs;by_cases h0:e<0
  .exact N8 _ _ _ _ _ _ _ _ _ _ s h0
  .obtain⟨k,rfl⟩:∃k:Nat,e=k:=⟨e.toNat,oo⟩;have hk:k<p.length:=oo;have hpk:=hp k hk;have hpar:∀q,q.size<=4000000->DX B p a cap wa wc bs kb F lp (parentOf p k) q:=fun q hq=>ih _ oo oo q hq;have one:∀q,q.size<=4000000->((custom q&&lp k q)=false->∀nm∈yO (kJ F) k q,DX B p a cap wa wc bs kb F lp (k:Int) nm)->DX B p a cap wa wc bs kb F lp (k:Int) q:=fun q hq hnm=>
    Ya B p a cap wa wc bs kb F lp k q hk hq fun w hC=>akw B p a cap wa wc bs kb F lp k q w hC hq hk (hpar q hq) hF (U k) (hUl k) (fun y z hz=>⟨hU k y z hz,(hok k y z hz).1⟩) (hlp k q) hnm
   have inner:∀(m:Nat) (P:BY->Nat) (q:BY),q∈U k->q.size<=4000000->unS (U k) P<m->(∀x,P x≠0->Sp.Way (yO (kJ F) k) x q)->DX B p a cap wa wc bs kb F lp (k:Int) q:=by
    intro m;induction m with
    |zero=>intro P q _ _ hm;omega
    |succ m ihm=>
     intro P q hq hqs hm hP;refine one q hqs fun hf nm hnm=>?_;by_cases hPq:P q=0
     .have hun:=afi (U k) P q hq hPq;refine ihm (Ea P q) nm (hU k q nm hnm) (hok k q nm hnm).1 oo fun x hx=>?_;by_cases hxq:x=q
      .rw[hxq];exact .one hnm
      .exact .more (hP x (by unfold Ea at hx;rwa[if_neg hxq]at hx)) hnm
     .have hw:=hP q hPq;rw[Yc (fun y z hz=>(hok k y z hz).2) hw,(hlp k q).2 hw]at hf;cases hf
   exact one s hs fun _ nm hnm=>inner (unS (U k) (fun _=>0)+1) (fun _=>0) nm (hU k s nm hnm) (hok k s nm hnm).1 oo fun x hx=>absurd rfl hx
section
def yT(F:lI)(p:aI)(sh:List BY)(i:Nat):BY->Option jS:=wZ F p i (fun _=>none) (sh.map KR)
def PQ(Q:List Nd->Prop)(g:BY->Option jS):Prop:=∀s x,g s=some x->Q x.val
section
variable {Q:List Nd->Prop}
theorem ahW{g:BY->Option jS}{x:jS}(h:PQ Q g)(hx:Q x.val):PQ Q (zG g x):=by
 intro s y hy;unfold zG at hy;split at hy
 .split at hy
  .cases hy;exact hx
  .rename_i z hz;split at hy
   .cases hy;exact hx
   .cases hy;exact h _ _ hz
 .exact h s y hy
theorem ZH{t:lU}:∀(ds:List Dec) (g:BY->Option jS),PQ Q g->(∀d∈ds,Q d.val)->PQ Q (ds.foldl (Py t) g)
 |[],_,h,_=>h
 |d::r,_,h,hd=>ZH r _ (ahW h (hd d List.mem_cons_self)) (fun x hx=>hd x (List.mem_cons_of_mem _ hx))
theorem ahX{F:lI}{p:aI}{r:Rule}{i:Nat}{g:BY->Option jS}(h:PQ Q g)(hr:∀d∈decls (r.body.getD []),Q d.val):PQ Q (yJ F p r i g):=by
 unfold yJ;split
 .exact h
 .split
  .unfold qg;split
   .exact ZH _ _ h hr
   .exact h
  .exact h
theorem afq{F:lI}{p:aI}{i:Nat}:∀(rs:List Rule) (g:BY->Option jS),PQ Q g->(∀r∈rs,∀d∈decls (r.body.getD []),Q d.val)->PQ Q (Gl F p i g rs)
 |[],_,h,_=>h
 |r::rs,_,h,hr=>afq rs _ (ahX h (hr r List.mem_cons_self)) (fun x hx=>hr x (List.mem_cons_of_mem _ hx))
theorem afr{F:lI}{p:aI}{i:Nat}:∀(ss:List (List Rule)) (g:BY->Option jS),PQ Q g->(∀s∈ss,∀r∈s,∀d∈decls (r.body.getD []),Q d.val)->PQ Q (wZ F p i g ss)
 |[],_,h,_=>h
 |s::ss,_,h,hr=>afr ss _ (afq s _ h (hr s List.mem_cons_self)) (fun x hx=>hr x (List.mem_cons_of_mem _ hx))
end
theorem ZI{Q:List Nd->Prop}{F:lI}{p:aI}{sh:List BY}(h:∀s∈sh,∀r∈KR s,∀d∈decls (r.body.getD []),Q d.val):∀e q x,yT F p sh e q=some x->Q x.val:=by intro e;refine afr (sh.map KR) _ (fun _ _ h=>by cases h) ?_;intro rs hm r hr;obtain⟨s,hs,rfl⟩:=List.mem_map.1 hm;exact h s hs r hr
theorem Yd:decls []=[]:=by unfold decls fF;rfl
theorem afs{s:BY}(hs:s.size<=600)(hd:depth (bH s)<=8):∀r∈KR s,∀d∈decls (r.body.getD []),afo d.val:=by
 intro r hr d hdd;have hg:=(Di hs).1;have h:=mP hg r hr;cases hb:r.body with
 |none=>rw[hb]at hdd;rw[show(Option.none.getD []:List Nd)=[] from rfl,Yd]at hdd;cases hdd
 |some b=>rw[hb]at hdd;have amg:d∈decls b:=hdd;have h1:=abE hs hr hb amg;have h2:=h.2.2.1 b hb;have h3:=KC b d amg;exact⟨h1.1,oo,by have:=NY h3;omega,qw h2.1 fun m hm=>h3.subset hm⟩
theorem abL{s:BY}(hs:s.size<=600):∀r∈KR s,okG r:=by
 intro r hr;have hg:=(Di hs).1;have h:=mP hg r hr;have hw:=UH hs;refine⟨fun e=>?_,fun ss hss=>?_⟩
 .have hn:r.at_=none:=by
   cases ha:r.at_ with
   |none=>rfl
   |some w=>rw[ha]at e;have e2:w=aA:=e;have:=qN true _ (bH s) hg r hr w ha;rw[e2]at this;exact absurd this (by decide)
  exact Option.isSome_iff_exists.1 (h.2.1 hn)
 .have h1:=OM _ _ _ hss;have h2:=h.2.2.2;unfold rwz at h2;omega
def nmR(r:Rule):List BY:=(decls (r.body.getD [])).flatMap (fun d=>lW d.val)
def nmS(s:BY):List BY:=(KR s).flatMap nmR
def nmU(sh:List BY):List BY:=sh.flatMap nmS
theorem aft:∀(ds:List Dec),(ds.flatMap (fun d=>lW d.val)).length<=Qk ds
 |[]=>by simp
 |d::r=>by have h1:=aft r;have h2:=DT d.val;rw[List.flatMap_cons,List.length_append];simp only[Qk,dz];omega
theorem ZJ:∀(rs:List Rule),(rs.flatMap nmR).length<=Dp rs
 |[]=>by simp
 |r::q=>by have h1:=ZJ q;have h2:=aft (decls (r.body.getD []));have h3:=(Dl (r.body.getD [])).1;rw[List.flatMap_cons,List.length_append];simp only[Dp,rwz];have h4:(nmR r).length=((decls (r.body.getD [])).flatMap (fun d=>lW d.val)).length:=rfl;omega
theorem ahY{s:BY}(hs:s.size<=600):(nmS s).length<=12000:=by have h1:=ZJ (KR s);have h2:=(pO true (bH s)).1;have h3:=UH hs;unfold nmS;unfold KR at *;omega
theorem ZK:∀(sh:List BY),(∀s∈sh,s.size<=600)->(nmU sh).length<=12000*sh.length
 |[],_=>by simp[nmU]
 |s::r,h=>by have h1:=ahY (h s Aa);have h2:=ZK r fun x hx=>h x (by simp[hx]);unfold nmU at *;rw[List.flatMap_cons,List.length_append,List.length_cons];omega
theorem aky{sh:List BY}:∀s∈sh,∀r∈KR s,∀d∈decls (r.body.getD []),∀z∈lW d.val,z∈nmU sh:=by intro s hs r hr d hd z hz;exact List.mem_flatMap.2 ⟨s,hs,List.mem_flatMap.2 ⟨r,hr,List.mem_flatMap.2 ⟨d,hd,hz⟩⟩⟩
theorem amh{F:lI}{p:aI}{sh:List BY}:∀e q,∀z∈yO (kJ (yT F p sh)) e q,z∈nmU sh:=by
 intro e q z hz;have h:=ZI (Q:=fun v=>∀z∈lW v,z∈nmU sh) (F:=F) (p:=p) (sh:=sh) aky;cases hf:yT F p sh e q with
 |none=>rw[DW hf]at hz;cases hz
 |some x=>rw[yR hf]at hz;exact h e q x hf z hz
theorem UY(F:Nat->BY->Option jS):∃lp:Nat->BY->Bool,∀e s,lp e s=true↔Sp.Way (yO (kJ F) e) s s:=by refine⟨fun e s=>@decide (Sp.Way (yO (kJ F) e) s s) (Classical.propDecidable _),fun e s=>?_⟩;exact @decide_eq_true_iff _ (Classical.propDecidable _)
end
theorem ahg(s:BY)(w:WD):Calls prog 60 #[.string s] w fun e w'=>e=.returned (.bool (decide (600<s.size)))/\w'=w:=by
 by_cases h:600<s.size
 .have h1:(600:Int)<(s.size:Int):=oo;rw[decide_eq_true h];go_in;go_wp2_with fail;go_ret;exact⟨by first|rfl|simp[h1],rfl⟩
 .have h1:(s.size:Int)<=600:=oo;have h2:¬(600:Int)<(s.size:Int):=oo;rw[decide_eq_false h];go_in;go_wp2_with fail;go_ret;exact⟨by first|rfl|simp[h2]|(simp;omega),rfl⟩
theorem aa9(S:Nat->Prop)(sh:List BY)(v:Av)(w:WD)(h:SG eX 1 S w v sh)(hn:sh.length<=4)(hs:∀s∈sh,s.size<=600):
  Calls prog 34 #[v] w fun e w'=>e=.returned (.bool false)/\w'=w:=by
 have HC:=hid (rM sh v 60 (fun s=>decide (600<s.size)) S w h (fun _ _=>rfl) (fun x w _=>ahg x w));have hany:sh.any (fun s=>decide (600<s.size))=false:=by rw[List.any_eq_false];intro s hm;have:=hs s hm;simp;omega
 rw[hany]at HC;obtain⟨a,cap,rfl⟩:=h.form;have h4:(sh.length:Int)<=4:=oo;clear h hs hany;go_in;go_wp2_with fail;refine HC.o.mono ?_;rintro e wq ⟨rfl,hwq⟩;rw[hwq];clear hwq;go_wp2_with fail;go_ret;exact⟨rfl,rfl⟩
def apL(p:aI)(sh:List BY)(i:Nat):BY->Option jS:=aqc p i (fun _=>none) (sh.map KR)
def cmR(F:lI)(lp:Nat->BY->Bool)(p:aI)(sh:List BY)(e:Nat)(q:BY)(ex:Ending):Prop:=if nY sh=true then ex=.returned (.tuple #[.string ⟨#[]⟩,.int .i64 2]) else ∃t,ex=.returned (.tuple #[.string t,.int .i64 0])/\Cv p (kJ (yT F p sh)) lp e q t
theorem KJ(F:lI)(lp:Nat->BY->Bool)(B:Nat)(p:aI)(pv:Av)(sh:List BY)(sv:Av)(e:Nat)(pr:BY)(w:WD)(hp:SG wO 5 (fun b=>b<B) w pv p)(hs:SG eX 1 (fun b=>b<B) w sv sh)(hB:B<=w.heap.size)(hl:Lit w)(hpg:iL p=true)(he:e<p.length)(hn:sh.length<=4)(hpr:pr.size<=100)
  (hsh:∀s∈sh,s.size<=600) (hfit:pJ F w) (hlp:∀e s,lp e s=true↔Sp.Way (yO (kJ (yT F p sh)) e) s s) (hR:∀f,vK f):
  Calls prog 15 #[pv,sv,.int .i64 (e:Int),.string pr] w fun ex w'=>cmR F lp p sh e (jM pr) ex/\Below w.heap.size w w':=by
 have HP:=hid hp;have HS:=hid hs;have HL:=hid hl;have HPG:=hid hpg;have HSH:=hid hsh;have HFT:=hid hfit;have HLP:=hid hlp;have HRD:=hid hR;have h1:(e:Int)<(p.length:Int):=oo;have anJ:(pr.size:Int)<=100:=oo;have HOF:=amZ B p pv w hp hB;obtain⟨a,cap,rfl⟩:=hp.form;obtain⟨sa,sc,rfl⟩:=hs.form;have hpz:(jM pr).size<=4000000:=by rw[FC];omega
 clear hp hs hl hpg hsh hfit hlp hR;go_in;go_wp2_with fail;refine HOF.mono ?_;rintro ex w1 ⟨⟨pv',rfl,hpv⟩,hb1⟩;obtain rfl:=hpv HPG.o;rw[HPG.o];have X2:Hid (Below w.heap.size w (w1.alloc (.cells #[.slice a p.length cap] 66))):=hb1.alloc hb1.size _;have V2:Hid (bU (w1.alloc (.cells #[.slice a p.length cap] 66)) w1.heap.size (.slice a p.length cap) 66):=bU.new _ _ _;clear hb1 hpv HOF;go_upto_region 2 with fail
 generalize w1.alloc (.cells #[.slice a p.length cap] 66)=w2 at *;obtain⟨pb,Hpb⟩:=Nm w1.heap.size;rw[Hpb.o]at V2;rw[Hpb.o];have c2:=V2.o.c;have hs2:=X2.o.size;go_wp2_with fail;refine(ajM p.length a cap (e:Int) w2).mono ?_;rw[show(decide ((0:Int)<=(e:Int))&&decide ((e:Int)<(p.length:Int)))=true by simp;omega];rintro ex w3 ⟨rfl,hb3⟩;have X3:=hid (X2.o.trans (hb3.mono hs2));have V3:Hid (bU w3 pb (.slice a p.length cap) 66):=V2.o.below hb3 V2.o.lt;clear hb3 c2 V2;have c3:=V3.o.c;have hs3:=X3.o.size;have S3:=hid (HS.o.below eX.fair X3.o hB);go_wp2_with fail;refine(aa9 _ sh _ w3 S3.o hn HSH.o).mono ?_;rintro ex wq ⟨rfl,hwq⟩;rw[hwq];clear hwq;go_wp2_with fail;refine(PG B sh _ w3 S3.o oo (HL.o.below X3.o) HSH.o).mono ?_
 rintro ex w4 ⟨hrs,hb4⟩;unfold rsR at hrs;by_cases hdp:nY sh=true
 .rw[if_pos hdp]at hrs;subst hrs;have X4:=hid (X3.o.trans (hb4.mono hs3));have HCM:Hid (cmR F lp p sh e (jM pr) (.returned (.tuple #[.string ⟨#[]⟩,.int .i64 2]))):=by
   show cmR _ _ _ _ _ _ _;unfold cmR;rw[if_pos hdp]
  clear hb4 hdp;go_wp2_with fail;go_ret2
  exact⟨HCM.o,X4.o⟩
 have hdf:nY sh=false:=by simpa using hdp
 rw[if_neg hdp]at hrs;have HDN:=hid (abt hdf);have HDF:=hid hdf;clear hdp hdf;obtain⟨rss,akz⟩:=Nm (sh.map KR);have HWF:Hid (yT F p sh=fun i=>wZ F p i (fun _=>none) rss):=by show _=_;rw[<-akz.o];rfl
 have HOR:Hid (∀s∈rss,∀r∈s,okG r):=by show ∀s∈rss,_;rw[<-akz.o];intro rs hm r hr;obtain⟨s,hs,rfl⟩:=List.mem_map.1 hm;exact abL (HSH.o s hs) r hr
 rw[akz.o]at hrs;obtain⟨u4,rfl,akA⟩:=hrs;have X4:=hid (X3.o.trans (hb4.mono hs3));have V4:Hid (bU w4 pb (.slice a p.length cap) 66):=V3.o.below hb4 V3.o.lt;have G4:Hid (SG (One dB 4) 1 (fun b=>b<w4.heap.size) w4 u4 rss):=akA.keep (One.fair dB.fair) (fun _ hg=>hg.2) fun _ _=>rfl;have hs4:=X4.o.size;obtain⟨ua,uc,rfl⟩:=akA.form;clear hb4 c3 V3 akA;have c4:=V4.o.c;have P4:Hid (jZ w4.heap.size w4 p a cap):=⟨(HP.o.below wO.fair X4.o hB).mono wO.fair oo,Nat.le_refl _,HPG.o⟩;go_wp2_with fail;refine(akm F p a cap _ rss w4 P4.o G4.o HOR.o HRD.o (HFT.o.below X4.o)).mono ?_;rintro ex w5 ⟨⟨wa,wc,kb,bs,rfl,hcm,hall,hmp,hkl,hkn⟩,hb5⟩;have X5:=hid (X4.o.trans (hb5.mono hs4));have hs5:=X5.o.size
 have C5:Hid (lV w4.heap.size w5 p a cap wa wc bs kb (yT F p sh) lp):=⟨hcm,by rw[HWF.o];exact hall,⟨_,hmp,fun _ _ _ h=>by cases h⟩,hkn,hkl⟩;have anK:=hb5.size;clear hcm hall hmp hkl hkn hb5 c4;go_wp2_with fail;refine(II pr w5 oo).mono ?_;rintro ex w6 ⟨rfl,hb6⟩;have X6:=hid (X5.o.trans (hb6.mono hs5));have C6:=hid (C5.o.below hb6);have hs6:=X6.o.size;have hkb:w4.heap.size<=kb:=C6.o.lo;clear hb6;have hul:(nmU sh).length<=50000:=by have:=ZK sh HSH.o;omega
 have HCO:=hid (abK w4.heap.size p a cap wa wc bs kb (yT F p sh) lp (ZI fun s hs=>afs (HSH.o s hs) (HDN.o s hs)) (fun _=>nmU sh) (fun _=>hul) amh HLP.o (fun i hi=>C6.o.cas.pg.par.lt i hi) (e+1) (e:Int) oo h1 (jM pr) hpz w6 C6.o);go_wp2_with fail;refine HCO.o.mono ?_;rintro ex w7 ⟨⟨t,rfl,hcv⟩,hk7,ht7⟩;have HCM:Hid (cmR F lp p sh e (jM pr) (.returned (.tuple #[.string t,.int .i64 0]))):=by show cmR _ _ _ _ _ _ _;unfold cmR;rw[if_neg (by rw[HDF.o];simp)];exact⟨t,rfl,ZE hcv⟩
 clear hcv;have X7:=hid (X6.o.trans (ht7.below oo oo));clear hk7 ht7;go_wp2_with fail;go_ret2
 exact⟨HCM.o,X7.o⟩
def Gq(t:Nat->Int)(w:WD):Prop:=∀k,k<256->w.cell? ⟨1,k,none⟩=some (.int .u8 (t k))/\0<=t k/\t k<256
theorem Gq.lt{t:Nat->Int}{w:WD}(h:Gq t w):1<w.heap.size:=World.block_lt_of_cell? w _ (h 0 oo).1
theorem Gq.below{t:Nat->Int}{w w':WD}(h:Gq t w)(hb:Below w.heap.size w w'):Gq t w':=fun k hk=>⟨(World.cell?_of_block (w:=w) (hb.block 1 h.lt)).trans (h k hk).1,(h k hk).2⟩
def GU(t:Nat->Int)(s:BY)(i:Nat):Int:=t (pk s i).toNat
def UZ(a c:Int):Int:=bits .and .i64 a (bits .xor .i64 (-1) c)
theorem afu(a:Nat)(ha:a<256):(BitVec.ofInt 64 (a:Int)).toNat=a:=by rw[BitVec.ofInt_natCast,BitVec.toNat_ofNat];exact Nat.mod_eq_of_lt oo
theorem afv(a:Nat)(c:Int)(ha:a<256):bits .and .i64 (a:Int) c=((a &&& (BitVec.ofInt 64 c).toNat:Nat):Int):=by
 have hx:a &&& (BitVec.ofInt 64 c).toNat<=a:=Nat.and_le_left;show IntKind.i64.wrap ((BitVec.ofInt 64 (a:Int) &&& BitVec.ofInt 64 c).toNat:Int)=_;rw[BitVec.toNat_and,afu a ha];have:∀n:Nat,n<256->IntKind.i64.wrap (n:Int)=(n:Int):=by intro n hn;rw[IntKind.wrap_i64];omega
 exact this _ oo
theorem P6(a c:Int)(h0:0<=a)(h1:a<256):0<=UZ a c/\UZ a c<=a:=by obtain⟨A,rfl⟩:=Int.eq_ofNat_of_zero_le h0;unfold UZ;have h:=afv A (bits .xor .i64 (-1) c) oo;rw[show bits .and .i64 ((A:Nat):Int) (bits .xor .i64 (-1) c)=_ from h];have:A &&& (BitVec.ofInt 64 (bits .xor .i64 (-1) c)).toNat<=A:=Nat.and_le_left;exact⟨Int.natCast_nonneg _,by exact_mod_cast this⟩
theorem afw(a:Int)(h0:0<=a)(h1:a<256):UZ a 0=a:=by
 obtain⟨A,rfl⟩:=Int.eq_ofNat_of_zero_le h0;unfold UZ;have e:bits .xor .i64 (-1) 0 = -1:=by decide
 rw[e];have h:=afv A (-1) oo;rw[show bits .and .i64 ((A:Nat):Int) (-1)=_ from h];have e2:(BitVec.ofInt 64 (-1)).toNat=2 ^ 64-1:=by decide
 rw[e2,Nat.and_two_pow_sub_one_eq_mod,Nat.mod_eq_of_lt oo]
def Ye(t:Nat->Int)(s:BY):Nat->Nat->Int->Int
 |0,_,_=>0
 |n+1,i,a=>UZ a (GU t s i)+Ye t s n (i+1) (GU t s i)
def Oa(t:Nat->Int)(s:BY):Nat->Nat->Nat->List BY
 |0,fs,_=>if fs<s.size then [s.extract fs s.size] else []
 |n+1,fs,i=>if GU t s i=0 then Oa t s n fs (i+1) else if fs=i then Oa t s n (i+1) (i+1) else s.extract fs i::Oa t s n (i+1) (i+1)
def U0(t:Nat->Int):Prop:=∀k,k<256->0<=t k/\t k<256
theorem afx{t:Nat->Int}(h:U0 t)(s:BY)(i:Nat):0<=GU t s i/\GU t s i<256:=by
 apply h
 unfold pk;split
 .have:=s[i].toNat_lt;omega
 .omega
theorem U6{t:Nat->Int}(ht:U0 t)(s:BY):∀(n i:Nat),i+n=s.size ->
  (∀a:Int,0<a->a<256->((Oa t s n i i).length:Int)<=Ye t s n i a)/\(∀fs,fs<i->((Oa t s n fs i).length:Int)<=1+Ye t s n i 0)
 |0,i,h=>by
  refine⟨fun a _ _=>?_,fun fs hf=>?_⟩
  .unfold Oa Ye;rw[if_neg oo];simp
  .unfold Oa Ye;rw[if_pos oo];simp
 |n+1,i,h=>by
  obtain⟨i1,i2⟩:=U6 ht s n (i+1) oo;obtain⟨b0,b1⟩:=afx ht s i;refine⟨fun a ha ha2=>?_,fun fs hf=>?_⟩
  .unfold Oa Ye;by_cases hz:GU t s i=0
   .rw[if_pos hz,hz,afw a oo ha2];have:=i2 i oo;omega
   .rw[if_neg hz,if_pos rfl];have:=i1 (GU t s i) oo b1;have:=P6 a (GU t s i) oo ha2;omega
  .unfold Oa Ye;have hb:=P6 0 (GU t s i) oo oo;by_cases hz:GU t s i=0
   .rw[if_pos hz];have:=i2 fs oo;rw[hz]at hb⊢;omega
   .rw[if_neg hz,if_neg oo,List.length_cons];have:=i1 (GU t s i) oo b1;omega
theorem ZL{t:Nat->Int}(ht:U0 t)(s:BY):∀(n i:Nat) (a:Int),0<=a->a<256->0<=Ye t s n i a/\Ye t s n i a<=255*n
 |0,_,_,_,_=>by unfold Ye;omega
 |n+1,i,a,h0,h1=>by have hb:=P6 a (GU t s i) h0 h1;obtain⟨b0,b1⟩:=afx ht s i;have:=ZL ht s n (i+1) (GU t s i) b0 b1;unfold Ye;omega
def Gs(t:Nat->Int)(s:BY):List BY:=Oa t s s.size 0 0
def qm(t:Nat->Int)(s:BY):Nat:=(Ye t s s.size 0 1).toNat
def P7(t:Nat->Int)(s:BY):List BY:=Gs t s++List.replicate (qm t s-(Gs t s).length) ByteArray.empty
theorem afy{t:Nat->Int}(ht:U0 t)(s:BY):(Gs t s).length<=qm t s:=by have h:=(U6 ht s s.size 0 oo).1 1 oo oo;unfold Gs qm;omega
theorem afz(t:Nat->Int)(s:BY)(w:WD)(hs:s.size<=24)(hv:∀i,i<s.size->pk s i<128)(ht:Gq t w):
  Calls prog 347 #[.string s] w fun ex w'=>ex=.returned (.slice (some ⟨w.heap.size,0,none⟩) (qm t s) (qm t s))/\w'=w.alloc (.cells (Lib.cellsOf (Gs t s) (qm t s)) 9):=by
 have HT:=hid ht;have HT1:Hid (∀o:Obj,Gq t (w.alloc o)):=fun o=>ht.below (As.alloc nl _);have HB:Hid (U0 t):=fun k hk=>(ht k hk).2;have HV:=hid hv;obtain⟨W,HW⟩:=Nm (Gs t s);obtain⟨N,HN⟩:=Nm (qm t s);have hWN:W.length<=N:=by rw[<-HW.o,<-HN.o];exact afy HB.o s
 have hN:N<=6120:=by rw[<-HN.o];have:=ZL HB.o s s.size 0 1 oo oo;unfold qm;omega
 rw[HW.o,HN.o];clear ht hv;go_in;go_wp2_with fail;go_loopg[3,4,5,6] s.size (fun gg v3 v4 v5 v6 wr=>∃(n ws sb:Int) (i:Nat),v3=.int .i64 n/\v4=.int .i64 ws/\v5=.int .u8 sb/\v6=.int .i64 (i:Int)/\i+gg=s.size/\0<=n/\n<=i*255/\0<=ws/\ws<256/\0<=sb/\sb<128/\n+Ye t s gg i ws=(N:Int)/\w=wr);case atStart=>refine⟨0,1,0,0,rfl,rfl,rfl,rfl,oo,oo,oo,oo,oo,oo,oo,?_,rfl⟩;have:=ZL HB.o s s.size 0 1 oo oo;rw[<-HN.o];unfold qm;omega
 case round=>
  obtain⟨n,ws,sb,i,rfl,rfl,rfl,rfl,hi,hn0,hn1,hw0,hw1,hb0,hb1,hc,rfl⟩:=hrel;by_cases hlt:i<s.size
  .have h1:(i:Int)<(s.size:Int):=oo;have hix:=gQ s i hlt;have P8:=tK hlt;have U7:=HV.o i hlt;obtain⟨b,Hb⟩:=Nm (pk s i);have HC:=hid hc;have HS:Hid (GU t s i=t b.toNat):=hid (by unfold GU;rw[Hb.o]);rw[Hb.o]at hix P8 U7;obtain⟨c0,ht0,ht1⟩:=HT.o b.toNat oo;clear hc;go_wp2_with fail;go_roundg(s.size-(i+1));case measure=>omega
   case rel=>
    have hb:=P6 ws (t b.toNat) hw0 hw1;have ho:=u8_or sb b hb0 oo P8 oo;have ho2:sb.toNat ||| b.toNat<128:=Nat.or_lt_two_pow (n:=7) oo oo;have hcc:=HC.o;have e:gk=(s.size-(i+1))+1:=oo;rw[e]at hcc;unfold Ye at hcc;rw[HS.o]at hcc;refine⟨n+UZ ws (t b.toNat),t b.toNat,bits .or .u8 sb b,i+1,?_,rfl,rfl,by simp,oo,oo,oo,ht0,ht1,by rw[ho];omega,by rw[ho];omega,oo,rfl⟩;show Value.int .i64 (wrap64 (n+UZ ws (t b.toNat)))=_;unfold wrap64;congr 1
    omega
  .obtain rfl:i=s.size:=oo;have h1:¬((s.size:Int)<(s.size:Int)):=oo;have hsbz:¬((128:Int)<=sb):=oo;obtain rfl:n=(N:Int):=by
    have e:gk=0:=oo;rw[e]at hc;unfold Ye at hc;omega
   clear hc;have hmk:=run_make_row' (P:=prog) 26 9 (.string ByteArray.empty) 16 An An rfl .i64 .i64 N oo oo;go_upto_block 2 with fail;clear hmk;rw[<-Lib.cellsOf_nil];go_cut [12] (fun s12 wx=>(w.alloc (.cells (Lib.cellsOf [] N) 9))=wx/\∃i:Nat,i<=s.size/\s12=.int .i64 (i:Int)/\Oa t s (s.size-i) i i=W/\(i<s.size->GU t s i=0));case first=>
    go_wp2_with fail;go_loopg[12] s.size (fun g s12 wx=>(w.alloc (.cells (Lib.cellsOf [] N) 9))=wx/\∃i:Nat,i+g=s.size/\s12=.int .i64 (i:Int)/\Oa t s (s.size-i) i i=W);case atStart=>exact⟨rfl,0,oo,rfl,HW.o⟩
    case round=>
     obtain⟨rfl,i,hi,rfl,hf⟩:=hrel;have HF:=hid hf;clear hf;by_cases hin:i<s.size
     .have hiz:(i:Int)<(s.size:Int):=oo;have hix:=gQ s i hin;have P8:=tK hin;have U7:=HV.o i hin;obtain⟨b,Hb⟩:=Nm (pk s i);have HS:Hid (GU t s i=t b.toNat):=hid (by unfold GU;rw[Hb.o]);rw[Hb.o]at hix P8 U7;obtain⟨c0,ht0,ht1⟩:=HT1.o (.cells (Lib.cellsOf [] N) 9) b.toNat oo;obtain⟨x,Hx⟩:=Nm (t b.toNat);rw[Hx.o]at c0 ht0 ht1;by_cases hsx:x=0
      .subst hsx;go_wp2_with fail;go_meet
       exact⟨rfl,i,oo,rfl,HF.o,fun _=>by rw[HS.o,Hx.o]⟩
      .go_wp2_with fail;go_roundg(s.size-(i+1));case measure=>omega
       case rel=>refine⟨rfl,i+1,oo,by simp,?_⟩;have:=HF.o;rw[show s.size-i=(s.size-(i+1))+1 from by omega]at this;unfold Oa at this;rw[if_neg (by rw[HS.o,Hx.o];exact hsx),if_pos rfl]at this;exact this
     .obtain rfl:i=s.size:=oo;have hiz:¬((s.size:Int)<(s.size:Int)):=oo;go_wp2_with fail;go_meet
      exact⟨rfl,s.size,Nat.le_refl _,rfl,HF.o,fun h=>by omega⟩
   case rest=>
    obtain⟨rfl,i0,hi0,rfl,hf0,hns0⟩:=hcut;have H0:Hid (Oa t s (s.size-i0) i0 i0=W/\(i0<s.size->GU t s i0=0)):=⟨hf0,hns0⟩;clear hf0 hns0;go_wp2_with fail;go_loopg[10,11,12] (s.size-i0) (fun g s10 s11 s12 wx=>∃(done:List BY) (fs i:Nat),s10=.int .i64 (done.length:Int)/\s11=.int .i64 (fs:Int)/\s12=.int .i64 (i:Int)/\fs<=i/\i+g=s.size/\wx=(w.alloc (.cells (Lib.cellsOf done N) 9)) /\
     done++Oa t s (s.size-i) fs i=W/\(fs=i->i<s.size->GU t s i=0))
    case atStart=>exact⟨[],i0,i0,rfl,rfl,rfl,Nat.le_refl _,oo,rfl,H0.o.1,fun _=>H0.o.2⟩
    case round=>
     obtain⟨done,fs,i,rfl,rfl,rfl,hfi,hi,rfl,hinv,hside⟩:=hrel;clear H0;by_cases hin:i<s.size
     .have hiz:(i:Int)<(s.size:Int):=oo;have hix:=gQ s i hin;have P8:=tK hin;have U7:=HV.o i hin;obtain⟨b,Hb⟩:=Nm (pk s i);have HS:Hid (GU t s i=t b.toNat):=hid (by unfold GU;rw[Hb.o]);rw[Hb.o]at hix P8 U7;obtain⟨c0,ht0,ht1⟩:=HT1.o (.cells (Lib.cellsOf done N) 9) b.toNat oo;obtain⟨x,Hx⟩:=Nm (t b.toNat);rw[Hx.o]at c0 ht0 ht1;rw[show s.size-i=(s.size-(i+1))+1 from by omega]at hinv;unfold Oa at hinv;by_cases hsx:x=0
      .subst hsx;rw[if_pos (by rw[HS.o,Hx.o])]at hinv;have HI:=hid hinv;clear hinv hside;go_wp2_with fail;go_roundg(s.size-(i+1));case measure=>omega
       case rel=>exact⟨done,fs,i+1,rfl,rfl,by simp,oo,oo,rfl,HI.o,fun h=>by omega⟩
      .have hlt:fs<i:=by
        refine Nat.lt_of_le_of_ne hfi fun h=>?_;have:=hside h hin;rw[HS.o,Hx.o]at this;exact hsx this
       rw[if_neg (by rw[HS.o,Hx.o];exact hsx),if_neg oo]at hinv;have hdN:done.length<N:=by have:=congrArg List.length hinv;simp at this;omega
       have hnext:(Lib.cellsOf done N)[done.length]?=some (.string ByteArray.empty):=Lib.cellsOf_next hdN;have hdz:((done.length:Nat):Int)<(N:Int):=oo;have c1:(fs:Int)<=(i:Int):=oo;have c2:(i:Int)<=(s.size:Int):=oo;have HI:Hid ((done++[s.extract fs i])++Oa t s (s.size-(i+1)) (i+1) (i+1)=W):=hid (by rw[List.append_assoc];exact hinv);clear hinv hside;go_wp2_with fail;rw[Lib.cellsOf_set hdN];clear hnext c0;go_loopg[12] (s.size-(i+1)) (fun g s12 wx=>(w.alloc (.cells (Lib.cellsOf (done++[s.extract fs i]) N) 9))=wx/\∃j:Nat,i+1<=j/\j+g=s.size/\s12=.int .i64 (j:Int)/\(done++[s.extract fs i])++Oa t s (s.size-j) j j=W);case atStart=>exact⟨rfl,i+1,Nat.le_refl _,oo,by simp,HI.o⟩
       case round=>
        obtain⟨rfl,j,hij,hj,rfl,hfj⟩:=hrel;have HJ:=hid hfj;clear hfj hix P8 U7 HS Hx hsx ht0 ht1 HI Hb;by_cases hjn:j<s.size
        .have hjz:(j:Int)<(s.size:Int):=oo;have hix:=gQ s j hjn;have P8:=tK hjn;have U7:=HV.o j hjn;obtain⟨b,Hb⟩:=Nm (pk s j);have HS:Hid (GU t s j=t b.toNat):=hid (by unfold GU;rw[Hb.o]);rw[Hb.o]at hix P8 U7;obtain⟨c0,ht0,ht1⟩:=HT1.o (.cells (Lib.cellsOf (done++[s.extract fs i]) N) 9) b.toNat oo;obtain⟨x,Hx⟩:=Nm (t b.toNat);rw[Hx.o]at c0 ht0 ht1;by_cases hsx:x=0
         .subst hsx;go_wp2_with fail;go_roundg(s.size-j);case measure=>omega
          case rel=>exact⟨done++[s.extract fs i],j,j,by simp,rfl,rfl,Nat.le_refl _,oo,rfl,HJ.o,fun _ _=>by rw[HS.o,Hx.o]⟩
         .go_wp2_with fail;go_roundg(s.size-(j+1));case measure=>omega
          case rel=>refine⟨rfl,j+1,oo,oo,by simp,?_⟩;have:=HJ.o;rw[show s.size-j=(s.size-(j+1))+1 from by omega]at this;unfold Oa at this;rw[if_neg (by rw[HS.o,Hx.o];exact hsx),if_pos rfl]at this;exact this
        .obtain rfl:j=s.size:=oo;have hjz:¬((s.size:Int)<(s.size:Int)):=oo;go_wp2_with fail;go_roundg(s.size-s.size);case measure=>omega
         case rel=>exact⟨done++[s.extract fs i],s.size,s.size,by simp,rfl,rfl,Nat.le_refl _,oo,rfl,HJ.o,fun _ h=>by omega⟩
     .obtain rfl:i=s.size:=oo;have hiz:¬((s.size:Int)<(s.size:Int)):=oo;rw[Nat.sub_self]at hinv;unfold Oa at hinv;clear hside;by_cases hfl:fs<s.size
      .have hflz:(fs:Int)<(s.size:Int):=oo;rw[if_pos hfl]at hinv;have hdN:done.length<N:=by
        have:=congrArg List.length hinv;simp at this;omega
       have hnext:(Lib.cellsOf done N)[done.length]?=some (.string ByteArray.empty):=Lib.cellsOf_next hdN;have hdz:((done.length:Nat):Int)<(N:Int):=oo;have HI:=hid hinv;clear hinv;go_wp2_with fail;go_ret;refine⟨rfl,?_⟩;rw[Lib.cellsOf_set hdN,HI.o]
      .obtain rfl:fs=s.size:=oo;have hflz:¬((s.size:Int)<(s.size:Int)):=oo;rw[if_neg hfl,List.append_nil]at hinv;have HI:=hid hinv;clear hinv;go_wp2_with fail;go_ret;refine⟨rfl,?_⟩;rw[HI.o]
theorem uP{y:BY}(h:dK y=true):y.size<=24/\∀i,i<y.size->pk y i<128:=by
 unfold dK at h;rw[Bool.and_eq_true,List.all_eq_true,decide_eq_true_eq]at h;refine⟨h.2,fun i hi=>?_⟩;rw[zK hi];have:=h.1 y[i] (by have h2:y.data.toList[i]?=some y[i]:=Lib.data_getElem? y i hi;exact List.mem_of_getElem? h2)
 unfold oC at this;simp only[Bool.or_eq_true,Bool.and_eq_true,decide_eq_true_eq,beq_iff_eq]at this;rcases this with ((⟨_,h2⟩|⟨_,h2⟩)|h2)|h2
 .omega
 .omega
 .rw[h2];decide
 .rw[h2];decide
def EZ(t:Nat->Int):lI:=fun how v y=>
 if how=⟨#[61]⟩ then decide (y=v) else if how=⟨#[126,61]⟩ then(P7 t y).contains v
 else if how=⟨#[94,61]⟩ then(if v=aA then false else Lib.hasPrefix y.data.toList v.data.toList)
 else if how=⟨#[36,61]⟩ then(if v=aA then false else Lib.hasSuffix y.data.toList v.data.toList)
 else if how=⟨#[42,61]⟩ then(if v=aA then false else Lib.contains y.data.toList v.data.toList) else true
theorem abM(t:Nat->Int)(y:BY):Lib.cellsOf (Gs t y) (qm t y)=((P7 t y).map Value.string).toArray:=by unfold Lib.cellsOf P7;rw[List.map_append,List.map_replicate]
theorem afA{t:Nat->Int}(ht:U0 t)(y:BY):(P7 t y).length=qm t y:=by have:=afy ht y;unfold P7;rw[List.length_append,List.length_replicate];omega
theorem ahZ(t:Nat->Int)(x y:BY)(w:WD)(ht:U0 t)(hy:dK y=true):
  Calls prog 188 #[.slice (some ⟨w.heap.size,0,none⟩) (qm t y) (qm t y),.string x] (w.alloc (.cells (Lib.cellsOf (Gs t y) (qm t y)) 9)) fun e w'=>e=.returned (.bool ((P7 t y).contains x))/\w'=w.alloc (.cells (Lib.cellsOf (Gs t y) (qm t y)) 9):=by
 have hl:=afA ht y;have hN:qm t y<=6120:=by have:=ZL ht y y.size 0 1 oo oo;have:=(uP hy).1;unfold qm;omega
 have:=Tryz.slices_Contains_string w.heap.size 0 (qm t y) (qm t y) (P7 t y) x (w.alloc (.cells (Lib.cellsOf (Gs t y) (qm t y)) 9)) oo oo (fun j hj=>by have e:=heap_alloc_new w (.cells (Lib.cellsOf (Gs t y) (qm t y)) 9);unfold World.cell?;rw[e,abM];simp[hj])
 rw[List.take_of_length_le oo,y9,<-vV]at this;exact this
theorem uQ(v:BY):v.toList.isEmpty=decide (v=aA):=by rw[show decide (v=aA)=(v.toList==[]) from(ay v []).symm];cases v.toList<;>rfl
theorem akB(t:Nat->Int)(nm how v y:BY)(w:WD)(hl:Lit w)(ht:Gq t w)(hy:dK y=true):
  Calls prog 346 #[.agg #[.string nm,.string how,.string v],.string y] w fun ex w''=>ex=.returned (.bool (EZ t how v y))/\Below w.heap.size w w'':=by
 have HY:=hid hy;have B0:Hid (Below w.heap.size w (w.alloc (.cells #[.string nm,.string how,.string v] 341))):=As.alloc nl _;have HB:Hid (U0 t):=fun k hk=>(ht k hk).2;have HT:Hid (Gq t (w.alloc (.cells #[.string nm,.string how,.string v] 341))):=ht.below B0.o;have HL:=hid (hl.below B0.o);obtain⟨r,HR⟩:=Nm (EZ t how v y);rw[HR.o];clear hy ht hl;have HC:Hid (∀w5,Below (w.heap.size+1) (w.alloc (.cells #[.string nm,.string how,.string v] 341)) w5->w5.cell? ⟨w.heap.size,2,none⟩=some (.string v)):=fun w5 hb=>by
  have e:(w.alloc (.cells #[.string nm,.string how,.string v] 341)).cell? ⟨w.heap.size,2,none⟩=some (.string v):=by have:=heap_alloc_new w (.cells #[.string nm,.string how,.string v] 341);unfold World.cell?;rw[this];rfl
  exact(World.cell?_of_block (w:=w.alloc (.cells #[.string nm,.string how,.string v] 341)) (hb.block w.heap.size oo)).trans e
 have BA:Hid (∀w5,Below (w.heap.size+1) (w.alloc (.cells #[.string nm,.string how,.string v] 341)) w5->Below w.heap.size w w5):=fun w5 hb=>B0.o.trans (hb.mono oo);have HF:Hid (∀w5,Below (w.heap.size+1) (w.alloc (.cells #[.string nm,.string how,.string v] 341)) w5->w5.heap.size=w.heap.size+1->Calls prog 347 #[.string y] w5 fun ex w'=>
   ex=.returned (.slice (some ⟨w.heap.size+1,0,none⟩) (qm t y) (qm t y))/\w'.cell? ⟨w.heap.size,2,none⟩=some (.string v)/\Hid (Below w.heap.size w w') /\
    Hid (Calls prog 188 #[.slice (some ⟨w.heap.size+1,0,none⟩) (qm t y) (qm t y),.string v] w' fun e w''=>e=.returned (.bool ((P7 t y).contains v))/\w''=w')):=fun w5 hb hz=>by
  refine(afz t y w5 (uP HY.o).1 (uP HY.o).2 (HT.o.below (by simpa using hb))).mono ?_;rintro e w6 ⟨rfl,rfl⟩;have hs:w.heap.size+1<=w5.heap.size:=by have:=hb.size;simpa using this
  have hb6:Below (w.heap.size+1) (w.alloc (.cells #[.string nm,.string how,.string v] 341)) (w5.alloc (.cells (Lib.cellsOf (Gs t y) (qm t y)) 9)):=hb.alloc hs _;have hq:=ahZ t v y w5 HB.o HY.o;rw[hz]at hq⊢;exact⟨rfl,HC.o _ hb6,hid (BA.o _ hb6),hid hq⟩
 go_in;by_cases h1:how=⟨#[61]⟩
 .subst h1;go_wp2_with fail;go_ret;refine⟨aC ?_,B0.o⟩;rw[<-HR.o,bytes_beq];unfold EZ;rw[if_pos rfl]
 have e1:(how.toList==[61])=false:=by rw[ay];exact decide_eq_false h1
 by_cases h2:how=⟨#[126,61]⟩
 .have e2:(how.toList==[126,61])=true:=by rw[ay];exact decide_eq_true h2
  have HE:Hid ((P7 t y).contains v=r):=hid (by rw[<-HR.o];unfold EZ;rw[if_neg h1,if_pos h2]);clear h1 h2;go_upto_region 5 with fail
  clear e1 e2;have c5:=HC.o _ As;go_region_with (first
   |(go_at_call 347;refine(HF.o _ (by first|exact Below.refl _ _|exact As.drew) Aa).mono ?_;rintro e w5 ⟨rfl,c6,B5,HW⟩)
   |(go_at_call 188;refine HW.o.mono ?_;rintro e w6 ⟨rfl,hw6⟩;subst hw6))
  all_goals
   go_wp2_with fail;go_ret;exact⟨aC HE.o,B5.o⟩
 have e2:(how.toList==[126,61])=false:=by rw[ay];exact decide_eq_false h2
 by_cases h3:how=⟨#[94,61]⟩
 .have e3:(how.toList==[94,61])=true:=by rw[ay];exact decide_eq_true h3
  have HE:Hid ((if v=aA then false else Lib.hasPrefix y.data.toList v.data.toList)=r):=hid (by rw[<-HR.o];unfold EZ;rw[if_neg h1,if_neg h2,if_pos h3]);clear h1 h2 h3;by_cases hv:v=aA
  .have hv0:v.toList.isEmpty=true:=by rw[uQ];exact decide_eq_true hv
   rw[if_pos hv]at HE;clear hv;go_wp2_with fail;go_ret;exact⟨aC HE.o,B0.o⟩
  .have hv0:v.toList.isEmpty=false:=by rw[uQ];exact decide_eq_false hv
   rw[if_neg hv]at HE;clear hv;go_wp2_with fail;refine pmb (Tryz.strings_HasPrefix _ _ _) fun wq hwq=>?_;rw[hwq];go_wp2_with fail;go_ret;exact⟨aC HE.o,B0.o⟩
 have e3:(how.toList==[94,61])=false:=by rw[ay];exact decide_eq_false h3
 by_cases h4:how=⟨#[36,61]⟩
 .have e4:(how.toList==[36,61])=true:=by rw[ay];exact decide_eq_true h4
  have HE:Hid ((if v=aA then false else Lib.hasSuffix y.data.toList v.data.toList)=r):=hid (by rw[<-HR.o];unfold EZ;rw[if_neg h1,if_neg h2,if_neg h3,if_pos h4]);clear h1 h2 h3 h4;by_cases hv:v=aA
  .have hv0:v.toList.isEmpty=true:=by rw[uQ];exact decide_eq_true hv
   rw[if_pos hv]at HE;clear hv;go_wp2_with fail;go_ret;exact⟨aC HE.o,B0.o⟩
  .have hv0:v.toList.isEmpty=false:=by rw[uQ];exact decide_eq_false hv
   rw[if_neg hv]at HE;clear hv;have hy4:y.size<=9223372036854775807:=by have:=(uP HY.o).1;omega
   go_wp2_with fail;refine pmb (Tryz.strings_HasSuffix _ _ _ hy4) fun wq hwq=>?_;rw[hwq];go_wp2_with fail;go_ret;exact⟨aC HE.o,B0.o⟩
 have e4:(how.toList==[36,61])=false:=by rw[ay];exact decide_eq_false h4
 by_cases h5:how=⟨#[42,61]⟩
 .have e5:(how.toList==[42,61])=true:=by rw[ay];exact decide_eq_true h5
  have HE:Hid ((if v=aA then false else Lib.contains y.data.toList v.data.toList)=r):=hid (by rw[<-HR.o];unfold EZ;rw[if_neg h1,if_neg h2,if_neg h3,if_neg h4,if_pos h5]);clear h1 h2 h3 h4 h5;by_cases hv:v=aA
  .have hv0:v.toList.isEmpty=true:=by rw[uQ];exact decide_eq_true hv
   rw[if_pos hv]at HE;clear hv;go_wp2_with fail;go_ret;exact⟨aC HE.o,B0.o⟩
  .have hv0:v.toList.isEmpty=false:=by rw[uQ];exact decide_eq_false hv
   rw[if_neg hv]at HE;clear hv;have hy4:y.size<4294967281:=by have:=(uP HY.o).1;omega
   obtain⟨⟨m,hm⟩,_⟩:=HL.o;go_wp2_with fail;refine pmb (Tryz.strings_Contains _ _ m _ hy4 hm) fun wq hwq=>?_;rw[hwq];go_wp2_with fail;go_ret;exact⟨aC HE.o,B0.o⟩
 have e5:(how.toList==[42,61])=false:=by rw[ay];exact decide_eq_false h5
 have HE:Hid (true=r):=hid (by rw[<-HR.o];unfold EZ;rw[if_neg h1,if_neg h2,if_neg h3,if_neg h4,if_neg h5]);clear h1 h2 h3 h4 h5;go_wp2_with fail;go_ret;exact⟨aC HE.o,B0.o⟩
theorem ZM(t:Nat->Int)(w:WD)(hl:Lit w)(ht:Gq t w):pJ (EZ t) w:=fun nm how v y w' hy hb=>akB t nm how v y w' (hl.below hb) (ht.below hb) hy
theorem abN:prog.cellTypes prog.depth 367=some (List.replicate 256 5):=by kernel_rfl
theorem ah0(W:WD)(hsh:W.ShapedOpen prog):∃t,Gq t W:=by
 have h0:((begin prog (fun _ _=>0) default).world.heap[1]?).bind Obj.row?=some (Array.replicate 256 (.int .u8 0),367):=by kernel_rfl
 obtain⟨cs,hh,hs,hr⟩:=hsh.1 1 _ 367 (of_decide_eq_true An) h0;obtain⟨ts,hts,_,hall⟩:=hr An;rw[abN]at hts;cases hts;have amV:cs.size=256:=by rw[hs];simp
 have key:∀k,k<256->∃m,W.cell? ⟨1,k,none⟩=some (.int .u8 m)/\0<=m/\m<256:=fun k hk=>by
  have h1:k<cs.size:=oo;obtain⟨u,hu',hok⟩:=hall k cs[k] (by simp[h1]);have:u=5:=by rw[List.getElem?_replicate,if_pos (by simp;omega)]at hu';exact(Option.some.inj hu').symm
  subst this;have hcell:W.cell? ⟨1,k,none⟩=some cs[k]:=by simp[World.cell?,hh,h1]
  rw[hcell];unfold Cell.ok at hok;rw[Tryz.underlying5]at hok;cases hv:cs[k]<;>rw[hv]at hok<;>simp at hok
  case int k' n=>have h2:=hok;obtain⟨rfl,h3⟩:=hok;have h4:IntKind.u8.min<=n/\n<=IntKind.u8.max:=h3;rw[show IntKind.u8.min=0 from rfl,show IntKind.u8.max=255 from rfl]at h4;exact⟨n,rfl,oo,oo⟩
 refine⟨fun k=>if h:k<256 then(key k h).choose else 0,fun k hk=>?_⟩;show W.cell? ⟨1,k,none⟩=some (Value.int .u8 (if h:k<256 then(key k h).choose else 0))/\0<=(if h:k<256 then(key k h).choose else 0)/\(if h:k<256 then(key k h).choose else 0)<256;rw[dif_pos hk];exact(key k hk).choose_spec
theorem KL{s:Nat}{q:Int}:hasB s q=true↔0<=q/\s.testBit q.toNat=true:=by unfold hasB;simp
theorem ah2(F:lI)(p:aI)(r:BY):∀n,Me F p n (Simple.of 46 r)=jq (TQ p (fun x=>x.classes.contains r)) p.length
 |0=>by unfold Me Simple.of;rw[DN];unfold NQ;rw[if_pos oo];rfl
 |n+1=>by unfold Me Simple.of;rw[DN];unfold NQ;rw[if_pos oo];rfl
