import Derived.Test.YtlliliddljkbfaaGreatC8
set_option maxHeartbeats 64000000
set_option maxRecDepth 100000
namespace Go.Proofs.YtlliliddljkbfaaGreat
open Go.Proofs.Tryz (prog)
open Go.RowKit Sp
section
attribute [local go_sem] bI bJ aX aY
theorem last_at{α:Type}{l:List α}(h:0<l.length):l.getLast?=some (l[l.length-1]'oo):=by rw[List.getLast?_eq_getElem?,List.getElem?_eq_getElem oo]
theorem dropLast_take{α:Type}(l:List α):l.dropLast=l.take (l.length-1):=List.dropLast_eq_take
theorem aas{v:List Nd}(h:0<v.length)(hw:ru (v[v.length-1]'oo) jw=false):gW v=(v,false):=by unfold gW;rw[last_at h];simp only;rw[if_neg (by rw[hw];simp)]
theorem Rq{v:List Nd}(h:0<v.length)(hw:ru (v[v.length-1]'oo) jw=true)(hb:bare (v.take (v.length-1))=[]):gW v=(v,false):=by unfold gW;rw[last_at h];simp only;rw[if_pos hw,dropLast_take,hb];rfl
theorem Rt{v b:List Nd}(h:0<v.length)(hw:ru (v[v.length-1]'oo) jw=true)(hb:bare (v.take (v.length-1))=b)(h2:0<b.length):gW v=if dN (b[b.length-1]'oo) (b1 33)=true then(bare (b.take (b.length-1)),true) else(v,false):=by unfold gW;rw[last_at h];simp only;rw[if_pos hw,dropLast_take,hb,last_at h2,dropLast_take]
theorem IJ(B:Nat)(l:List Nd)(v:Av)(w:WD)(h:Sl (fun b=>b<B) w v l)(hB:B<=w.heap.size):
  Calls prog 226 #[v] w fun e w'=>∃v',e=.returned (.tuple #[v',.bool (gW l).2])/\Sl (fun b=>b<B) w' v' (gW l).1/\Below w.heap.size w w':=by
 have FU:=h.len;have HS:=hid h;obtain⟨a,cap,rfl⟩:=h.form;clear h;by_cases hz:l.length=0
 .obtain rfl:l=[]:=List.eq_nil_of_length_eq_zero hz;clear hz;go_in;go_wp2_with fail;go_ret2
  exact⟨_,rfl,HS.o,Ax⟩
 .have hp:0<l.length:=oo;obtain⟨g,o,rfl,hL,hcap⟩:=HS.o.here (by rintro rfl;simp at hp);obtain⟨kv,hN⟩:=hL.node (i:=l.length-1) oo;obtain⟨n,hn⟩:∃n,n=l[l.length-1]'oo:=⟨_,rfl⟩;rw[<-hn]at hN;have HN:Hid (ru (l[l.length-1]'oo) jw=ru (.mk n.t []) jw):=by show _=_;rw[<-hn];rfl
  obtain⟨ka,kc,rfl⟩:=hN.k.form;have d0:=hN.c0;have d1:=hN.c1;have d2:=hN.c2;have d3:=hN.c3;have hwd:=hN.ok.word;clear hN hL hn;obtain⟨m,Hm⟩:=Nm (l.length-1);have hm:(l.length:Int)-1=(m:Int):=by have:=Hm.o;omega
  have hwm:IntKind.i64.wrap ((l.length:Int)-1)=(m:Int):=by rw[IntKind.wrap_i64];omega
  have hml:(m:Int)<(l.length:Int):=oo;have hmn:m<l.length:=oo;rw[Hm.o]at d0 d1 d2 d3;obtain⟨z,Hz⟩:=Nm (ru (.mk n.t []) jw);have HW:=Q8 n.t (.slice ka n.kids.length kc) jw w hwd;rw[Hz.o]at HW;have HW':Hid (Calls prog 161 #[fB n.t (.slice ka n.kids.length kc),.string jw] w fun e w'=>e=.returned (.bool z)/\Below w.heap.size w w'):=HW;clear HW;have hm0:(0:Int)<=(m:Int):=oo;go_in;go_wp2_with fail;refine HW'.o.mono ?_;rintro e w1 ⟨rfl,hb1⟩;have B1:=hid hb1;have hs1:=hb1.size;clear hb1 HW' d0 d1 d2 d3;cases z
  .have HV:Hid (gW l=(l,false)):=aas hp (by rw[HN.o];exact Hz.o);go_wp2_with fail;go_ret2
   exact⟨_,by rw[HV.o];rfl,by rw[HV.o];exact HS.o.below B1.o hB,B1.o⟩
  .have S1:=HS.o.below B1.o hB;obtain⟨hr1,hS1⟩:=S1.ajd m oo;have HST:=hid hS1;clear hS1 S1;have hlt:(l.take m).length=m:=by rw[List.length_take];omega
   go_wp2_with fail;refine(tu B (l.take m) _ w1 HST.o).mono ?_;obtain⟨b,Hb⟩:=Nm (bare (l.take m));rw[Hb.o];rintro e w2 ⟨v2,rfl,hS2,hw2⟩;subst hw2;have HS2:=hid hS2;have hl2:=hS2.len;obtain⟨a2,c2,rfl⟩:=hS2.form;clear hS2 hr1 hlt;by_cases hz2:b.length=0
   .have HV:Hid (gW l=(l,false)):=Rq hp (by rw[HN.o];exact Hz.o) (by rw[Hm.o,Hb.o];exact List.eq_nil_of_length_eq_zero hz2);have hq:(b.length:Int)=0:=oo;have hqw:IntKind.i64.wrap ((b.length:Int)-1) = -1:=by rw[IntKind.wrap_i64];omega
    clear hz2;go_wp2_with fail;go_ret2
    exact⟨_,by rw[HV.o];rfl,by rw[HV.o];exact HS.o.below B1.o hB,B1.o⟩
   .have hp2:0<b.length:=oo;obtain⟨g2,o2,rfl,hL2,hcap2⟩:=HS2.o.here (by rintro rfl;simp at hp2);obtain⟨kv2,YH⟩:=hL2.node (i:=b.length-1) oo;obtain⟨n2,hn2⟩:∃n,n=b[b.length-1]'oo:=⟨_,rfl⟩;rw[<-hn2]at YH;have HN2:Hid (dN (b[b.length-1]'oo) (b1 33)=au n2.t (b1 33)):=by show _=_;rw[<-hn2];rfl
    have Lm:Hid (gW l=if dN (b[b.length-1]'oo) (b1 33)=true then(bare (b.take (b.length-1)),true) else(l,false)):=Rt hp (by rw[HN.o];exact Hz.o) (by rw[Hm.o];exact Hb.o) hp2;obtain⟨ka2,kc2,rfl⟩:=YH.k.form;have d0:=YH.c0;have d1:=YH.c1;have d2:=YH.c2;have d3:=YH.c3;clear YH hL2 hn2;obtain⟨m2,Hm2⟩:=Nm (b.length-1);have hm2:(b.length:Int)-1=(m2:Int):=by have:=Hm2.o;omega
    have ani:IntKind.i64.wrap ((b.length:Int)-1)=(m2:Int):=by rw[IntKind.wrap_i64];omega
    have anj:(m2:Int)<(b.length:Int):=oo;have ank:m2<b.length:=oo;have anl:(0:Int)<=(m2:Int):=oo;rw[Hm2.o]at d0 d1 d2 d3;obtain⟨z2,Hz2⟩:=Nm (au n2.t (b1 33));go_wp2_with fail;refine(jf n2.t (.slice ka2 n2.kids.length kc2) (b1 33) _).mono ?_;rw[Hz2.o];rintro e w3 ⟨rfl,hb3⟩;have B3:=hid (B1.o.trans (hb3.mono hs1));have HS3:=hid (HS2.o.below hb3 oo);have hs3:=B3.o.size;clear hb3 d0 d1 d2 d3;cases z2
    .have HV:Hid (gW l=(l,false)):=by show _=_;rw[Lm.o,HN2.o,Hz2.o];rfl
     go_wp2_with fail;go_ret2
     exact⟨_,by rw[HV.o];rfl,by rw[HV.o];exact HS.o.below B3.o hB,B3.o⟩
    .have HV:Hid (gW l=(bare (b.take m2),true)):=by show _=_;rw[Lm.o,HN2.o,Hz2.o,Hm2.o];rfl
     obtain⟨hr3,hS3⟩:=HS3.o.ajd m2 oo;have amB:=hid hS3;clear hS3;go_wp2_with fail;refine(tu B (b.take m2) _ w3 amB.o).mono ?_;rintro e w4 ⟨v4,rfl,hS4,hw4⟩;subst hw4;have HS4:=hid hS4;clear hS4;go_wp2_with fail;go_ret2
     exact⟨_,by rw[HV.o];rfl,by rw[HV.o];exact HS4.o,B3.o⟩
end
section
attribute [local go_sem] bI bJ aX aY
def Q3(T:TypeId)(w:WD)(b:Nat)(x0 x1 x2:Av):Prop:=w.heap[b]?=some (.cells #[x0,x1,x2] T (0,0))
section
variable {T:TypeId} {w w':WD} {b:Nat} {x0 x1 x2:Av}
theorem Q3.lt(h:Q3 T w b x0 x1 x2):b<w.heap.size:=(Ay h)
theorem Q3.cs(h:Q3 T w b x0 x1 x2):w.cell? ⟨b,0,none⟩=some x0/\w.cell? ⟨b,1,none⟩=some x1/\w.cell? ⟨b,2,none⟩=some x2:=by have h':w.heap[b]?=_:=h;refine⟨?_,?_,?_⟩<;>(unfold World.cell?;rw[h'];rfl)
theorem Q3.fz(h:Q3 T w b x0 x1 x2)(o:Nat):w.frozen? ⟨b,o,none⟩=false:=by have h':w.heap[b]?=_:=h;unfold World.frozen?;rw[h'];simp
theorem Q3.below(h:Q3 T w b x0 x1 x2)(hb:Below w.heap.size w w'):Q3 T w' b x0 x1 x2:=by show _=_;rw[hb.block b h.lt];exact h
theorem Q3.new(T:TypeId)(w:WD)(x0 x1 x2:Av):Q3 T (w.alloc (.cells #[x0,x1,x2] T)) w.heap.size x0 x1 x2:=heap_alloc_new w _
end
def agl(w:WD)(g:Nat)(a b c:Av):WD:=((w.setCell ⟨g,0,none⟩ a).setCell ⟨g,1,none⟩ b).setCell ⟨g,2,none⟩ c
theorem rF{B g:Nat}{x w:WD}(h:Below B x w)(hg:B<=g)(a b c:Av):Below B x (agl w g a b c):=((h.setCell hg _).setCell hg _).setCell hg _
theorem VZ(w:WD){g k:Nat}(h:k≠g)(a b c:Av):(agl w g a b c).heap[k]?=w.heap[k]?:=by unfold agl;rw[Below.heap_setCell _ _ _ _ h,Below.heap_setCell _ _ _ _ h,Below.heap_setCell _ _ _ _ h]
def dcP(B:Nat)(o:Option Dec)(w':WD)(e:Ending):Prop:=
 match o with
 |none=>e=.returned (.tuple #[.agg #[.string ⟨#[]⟩,.slice none 0 0,.bool false],.bool false])
 |some d=>∃vv,e=.returned (.tuple #[.agg #[.string d.prop,vv,.bool d.imp],.bool true])/\Sl (fun b=>b<B) w' vv d.val/\d.prop.size<=4000000
theorem V6(s:BY):(small s).size=s.size:=by show(s.data.toList.map jr).toArray.size=s.data.size;rw[List.size_toArray,List.length_map,Array.length_toList]
theorem FC(p:BY):(jM p).size=p.size:=by
 unfold jM;split
 .rfl
 .exact V6 p
theorem Ru{n:Nd}{r:List Nd}(h:(n.t.kind==14)=false):iI (n::r)=none:=by unfold iI;simp only;rw[if_pos (by simpa using h)]
theorem Rw{n:Nd}{r:List Nd}(h:(n.t.kind==14)=true)(hb:bare r=[]):iI (n::r)=none:=by unfold iI;simp only;rw[if_neg (by simpa using h),hb]
theorem Rx{n c:Nd}{r q:List Nd}(h:(n.t.kind==14)=true)(hb:bare r=c::q):iI (n::r)=if au c.t (b1 58)=true then some ⟨jM n.t.word,(gW (bare q)).1,(gW (bare q)).2⟩ else none:=by unfold iI;simp only;rw[if_neg (by simpa using h),hb];rfl
theorem CZ(B:Nat)(l:List Nd)(v:Av)(w:WD)(h:Sl (fun b=>b<B) w v l)(hB:B<=w.heap.size):
  Calls prog 158 #[v] w fun e w'=>dcP B (iI l) w' e/\Below w.heap.size w w':=by
 have FU:=h.len;have HS:=hid h;obtain⟨a,cap,rfl⟩:=h.form;clear h;have R0:Hid (Q3 181 (w.alloc (.cells #[.string ⟨#[]⟩,.slice none 0 0,.bool false] 181)) w.heap.size (.string ⟨#[]⟩) (.slice none 0 0) (.bool false)):=Q3.new _ _ _ _ _;have B0:Hid (Below w.heap.size w (w.alloc (.cells #[.string ⟨#[]⟩,.slice none 0 0,.bool false] 181))):=Ax.alloc nl _;go_in;go_upto_region 1 with fail
 have hsz0:=B0.o.size;have hlt0:=R0.o.lt;generalize w.alloc (.cells #[.string ⟨#[]⟩,.slice none 0 0,.bool false] 181)=w0 at *;obtain⟨rb,zV⟩:=Nm w.heap.size;rw[zV.o]at B0 R0 hB hlt0 hsz0⊢;have S0:=hid (HS.o.below B0.o hB);clear HS;cases l with
 |nil=>have HV:Hid (iI []=none):=rfl;have z0:=R0.o.fz 0;have z1:=R0.o.fz 1;have z2:=R0.o.fz 2;obtain⟨q0,q1,q2⟩:=R0.o.cs;go_wp2_with fail;refine bodyPost_ret (v:=.tuple #[.agg #[.string ⟨#[]⟩,.slice none 0 0,.bool false],.bool false]) (by simp[results,Tryz.results158,go_sem,q0,q1,q2]) rfl ?_;exact⟨by rw[HV.o];rfl,by rw[zV.o];exact rF B0.o nl _ _ _⟩
 |cons n r=>
  obtain⟨g,o,nv,cap',hcv,hN,hcap⟩:=S0.o.head;injection hcv with hcv1 _ hcv2
  subst hcv1 hcv2;have hgB:g<B:=hN.s;have c0:=hN.c0;have HNC:Hid (∀wx,Below w0.heap.size w0 wx->wx.cell? ⟨g,o+1,none⟩=some (.string n.t.word)):=fun wx hb=>by rw[hb.cell (p:=⟨g,_,none⟩) (show g<w0.heap.size by omega)];exact hN.c1
  have hwd:=hN.ok.word;clear hN;have h1:¬((r.length+1:Nat):Int)=0:=oo;have h1b:(((r.length+1:Nat):Int)==0)=false:=by simpa using h1
  have h1c:((r.length:Int)+1==0)=false:=by simp;omega
  cases hk:(n.t.kind==14)
  .have HV:Hid (iI (n::r)=none):=Ru hk;have hkn:(n.t.kind != 14)=true:=by rw[bne,hk];rfl
   have z0:=R0.o.fz 0;have z1:=R0.o.fz 1;have z2:=R0.o.fz 2;obtain⟨q0,q1,q2⟩:=R0.o.cs;go_wp2_with fail;refine bodyPost_ret (v:=.tuple #[.agg #[.string ⟨#[]⟩,.slice none 0 0,.bool false],.bool false]) (by simp[results,Tryz.results158,go_sem,q0,q1,q2]) rfl ?_;exact⟨by rw[HV.o];rfl,by rw[zV.o];exact rF B0.o nl _ _ _⟩
  .have hkn:(n.t.kind != 14)=false:=by rw[bne,hk];rfl
   obtain⟨a1,hr1,hS1⟩:=S0.o.MH;have HS1:=hid hS1;clear hS1;go_wp2_with fail;refine(tu B r _ w0 HS1.o).mono ?_;obtain⟨b,Hb⟩:=Nm (bare r);rw[Hb.o];rintro e w2 ⟨v2,rfl,hS2,hw2⟩;subst hw2;have HS2:=hid hS2;obtain⟨a2,c2,rfl⟩:=hS2.form;have hl2:=hS2.len;clear hS2 hr1;cases b with
   |nil=>have HV:Hid (iI (n::r)=none):=Rw hk Hb.o;have z0:=R0.o.fz 0;have z1:=R0.o.fz 1;have z2:=R0.o.fz 2;obtain⟨q0,q1,q2⟩:=R0.o.cs;go_wp2_with fail;refine bodyPost_ret (v:=.tuple #[.agg #[.string ⟨#[]⟩,.slice none 0 0,.bool false],.bool false]) (by simp[results,Tryz.results158,go_sem,q0,q1,q2]) rfl ?_;exact⟨by rw[HV.o];rfl,by rw[zV.o];exact rF B0.o nl _ _ _⟩
   |cons c q=>
    have Lm:Hid (iI (n::r)=if au c.t (b1 58)=true then some ⟨jM n.t.word,(gW (bare q)).1,(gW (bare q)).2⟩ else none):=Rx hk Hb.o;obtain⟨g2,o2,kv2,cap2,hcv,YH,hcap2⟩:=HS2.o.head;injection hcv with hcv1 _ hcv2
    subst hcv1 hcv2;obtain⟨ka2,kc2,rfl⟩:=YH.k.form;have d0:=YH.c0;have d1:=YH.c1;have d2:=YH.c2;have d3:=YH.c3;clear YH;have h2c:((q.length:Int)+1==0)=false:=by simp;omega
    obtain⟨z2,Hz2⟩:=Nm (au c.t (b1 58));rw[Hz2.o]at Lm;go_wp2_with fail;refine(jf c.t (.slice ka2 c.kids.length kc2) (b1 58) _).mono ?_;rw[Hz2.o];rintro e w3 ⟨rfl,hb3⟩;have X3:=hid hb3;have B3:=hid (B0.o.trans (hb3.mono hsz0));have R3:=hid (R0.o.below hb3);have HS3:=hid (HS2.o.below hb3 oo);have hs3:=X3.o.size;clear hb3 d0 d1 d2 d3;cases z2
    .have HV:=hid Lm.o;have z0:=R3.o.fz 0;have z1:=R3.o.fz 1;have z2:=R3.o.fz 2;obtain⟨q0,q1,q2⟩:=R3.o.cs;go_wp2_with fail;refine bodyPost_ret (v:=.tuple #[.agg #[.string ⟨#[]⟩,.slice none 0 0,.bool false],.bool false]) (by simp[results,Tryz.results158,go_sem,q0,q1,q2]) rfl ?_;exact⟨by rw[HV.o];rfl,by rw[zV.o];exact rF B3.o nl _ _ _⟩
    .obtain⟨a4,hr4,hS4⟩:=HS3.o.MH;have HS4:=hid hS4;clear hS4;go_wp2_with fail;refine(tu B q _ w3 HS4.o).mono ?_;obtain⟨bq,Hbq⟩:=Nm (bare q);rw[Hbq.o]at Lm;rw[Hbq.o];rintro e w5 ⟨v5,rfl,hS5,hw5⟩;subst hw5;have HS5:=hid hS5;obtain⟨a5,c5,rfl⟩:=hS5.form;clear hS5 hr4;go_wp2_with fail;refine(IJ B bq _ w5 HS5.o oo).mono ?_;obtain⟨⟨val,imp⟩,Hci⟩:∃ci,Hid (gW bq=ci):=⟨_,hid rfl⟩;rw[Hci.o]at Lm;rw[Hci.o];rintro e w6 ⟨v6,rfl,hS6,hb6⟩;have HS6:=hid hS6;obtain⟨a6,c6,rfl⟩:=hS6.form;have X6:=hid (X3.o.trans (hb6.mono hs3));have B6:=hid (B0.o.trans (X6.o.mono hsz0))
     have R6:=hid (R3.o.below hb6);have c1:=HNC.o w6 X6.o;have hs6:=X6.o.size;clear hS6 hb6;go_wp2_with fail;refine(II n.t.word w6 hwd).mono ?_;have hps:(jM n.t.word).size<=4000000:=by rw[FC];exact hwd
     obtain⟨pr,Hpr⟩:=Nm (jM n.t.word);rw[Hpr.o]at Lm hps;rw[Hpr.o];rintro e w7 ⟨rfl,hb7⟩;have X7:=hid (X6.o.trans (hb7.mono hs6));have B7:=hid (B0.o.trans (X7.o.mono hsz0));have R7:=hid (R6.o.below hb7);have HS7:=hid (HS6.o.below hb7 oo);clear hb7 c1;have HV:=hid Lm.o;have z0:=R7.o.fz 0;have z1:=R7.o.fz 1;have z2:=R7.o.fz 2;obtain⟨q0,q1,q2⟩:=R7.o.cs;go_wp2_with fail;refine bodyPost_ret (v:=.tuple #[.agg #[.string pr,.slice a6 val.length c6,.bool imp],.bool true]) (by simp[results,Tryz.results158,go_sem,q0,q1,q2]) rfl ?_
     have hst:∀k,k<B->(agl w7 rb (.string pr) (.slice a6 val.length c6) (.bool imp)).heap[k]?=w7.heap[k]?:=fun k hk=>VZ w7 oo _ _ _;exact⟨by rw[HV.o];exact⟨_,rfl,HS7.o.keep (fun _ hg=>hg) hst,hps⟩,by rw[zV.o];exact rF B7.o nl _ _ _⟩
end
section
attribute [local go_sem] bI bJ aX aY
theorem xU:∀(f g:Nat) (l:List Nd),l.length<=f->l.length<=g->fF f l=fF g l:=by
 intro f;induction f with
 |zero=>intro g l hf hg;obtain rfl:l=[]:=List.eq_nil_of_length_eq_zero oo;cases g<;>rfl
 |succ f ih=>
  intro g l hf hg;cases l with
  |nil=>cases g<;>rfl
  |cons n r=>
   cases g with
   |zero=>simp at hg
   |succ g=>
    simp only[List.length_cons]at hf hg;unfold fF;dsimp only
    have h1:=jF (fun m=>aS m||aK m) r;have h2:=jF aS (n::r);simp only[List.length_cons]at h2;rw[ih g r oo oo,ih g (bG (fun m=>aS m||aK m) r).2.2 oo oo,ih g (bG aS (n::r)).2.2 oo oo]
theorem Ry{n:Nd}{r:List Nd}(h:iH n=true):decls (n::r)=decls r:=by
 unfold decls;show fF (r.length+1) (n::r)=_;conv=>lhs;unfold fF
 rw[if_pos (by rw[h];rfl)]
theorem acP{n:Nd}{r:List Nd}(h:n.t.kind=10):decls (n::r)=decls (bG (fun m=>aS m||aK m) r).2.2:=by
 have h1:=jF (fun m=>aS m||aK m) r;unfold decls;show fF (r.length+1) (n::r)=_;conv=>lhs;unfold fF
 rw[if_neg (by simp[iH,aS,dN,au,h]),if_pos h];exact xU _ _ _ oo nl
theorem Rz{n:Nd}{r:List Nd}(h:¬n.t.kind=1)(h10:¬n.t.kind=10):decls (n::r)=(iI (bG aS (n::r)).1).toList++decls (bG aS (n::r)).2.2:=by
 have h1:=jF aS (n::r);simp only[List.length_cons]at h1;unfold decls;show fF (r.length+1) (n::r)=_;have hb:iH n=false:=by simp[iH,h]
 by_cases hs:aS n=true
 .conv=>lhs;unfold fF
  rw[if_pos (by rw[hs];simp)];unfold bG;rw[if_pos hs];rfl
 .conv=>lhs;unfold fF
  rw[if_neg (by rw[hb];simpa using hs),if_neg h10];dsimp only
  cases iI (bG aS (n::r)).1 with
  |none=>exact xU _ _ _ oo nl
  |some d=>show d::_=d::_;rw[xU r.length _ _ oo nl];rfl
def vS:wV Dec:=fun S w d cs=>∃vv,cs=[.string d.prop,vv,.bool d.imp]/\Sl S w vv d.val/\d.prop.size<=4000000
theorem vS.fair:Fair vS:=by rintro S S' w w' d cs hS hw ⟨vv,h1,h2,h3⟩;exact⟨vv,h1,h2.keep hS hw,h3⟩
theorem vS.sized:ug vS 3:=by rintro S w d cs ⟨vv,rfl,_⟩;rfl
theorem acQ:∃i,prog.info? 181=some i/\i.zero=some (.agg #[.string ⟨#[]⟩,.slice none 0 0,.bool false])/\i.size=3/\i.bytes=48:=info_parts Ao
theorem amC(w:WD)(a b c:Av)(t:TypeId):∀j u,[a,b,c][j]?=some u->(w.alloc (.cells #[a,b,c] t)).cell? ((⟨w.heap.size,0,none⟩:Addr).add j)=some u:=by intro j u hu;rw[Addr.add_lit,Nat.zero_add,World.cell?_alloc_mark,<-hu];simp
structure DcI(B:Nat)(w:WD)(l:List Nd)(u:Av)(acc:List Dec)(cs:List Av)(cv:Av)(cur:List Nd)(wr:WD):Prop where
 row:wr.ownsRow w.heap.size 181 3 u acc.length cs
 cat:jC vS (fun b=>b<B) wr acc cs
 now:Sl (fun b=>b<B) wr cv cur
 below:Below w.heap.size w wr
 eq:decls l=acc++decls cur
 ln:acc.length+cur.length<=l.length
theorem xW(B:Nat)(l:List Nd)(v:Av)(w:WD)(h:Sl (fun b=>b<B) w v l)(hB:B<=w.heap.size):
  Calls prog 93 #[v] w fun e w'=>∃u cs,e=.returned u/\(w'.ownsRow w.heap.size 181 3 u (decls l).length cs/\jC vS (fun b=>b<B) w' (decls l) cs/\(decls l).length<=2097152/\B<=w'.heap.size)/\Below w.heap.size w w':=by
 have FU:=h.len;have HS:=hid h;obtain⟨a,cap,rfl⟩:=h.form;clear h;obtain⟨iT,hiT⟩:=acQ;have HI:=hid hiT;clear hiT;go_in;go_wp2_with fail;go_loopg[0,3] l.length (fun gg v0 v3 wr=>∃(u cv:Av) (acc:List Dec) (cs:List Av) (cur:List Nd),u=v3/\cv=v0/\cur.length<=gg/\acc.length<=600/\Aside (DcI B w l u acc cs cv cur wr));case atStart=>exact⟨_,_,[],[],l,rfl,rfl,oo,by simp,World.ownsRow_nil _ _ _ _,rfl,HS.o,Ax,rfl,by simp⟩
 case round=>
  obtain⟨u,cv,acc,cs,cur,rfl,rfl,hcl,hal,hA⟩:=hrel;have HR:=hid hA.o;clear hA;obtain⟨ua,uc,rfl⟩:=kQ HR.o.row;have hsr:=HR.o.below.size;cases cur with
  |nil=>
   obtain⟨ca,cc,rfl⟩:=HR.o.now.form;have HV:Hid (decls l=acc):=by show _=_;rw[HR.o.eq];exact List.append_nil _
   go_wp2_with fail;go_ret;exact⟨_,_,rfl,by rw[HV.o];exact⟨HR.o.row,HR.o.cat,oo,oo⟩,HR.o.below⟩
  |cons n r=>
   obtain⟨g,o,nv,cap',rfl,hN,hcap⟩:=HR.o.now.head;have c0:=hN.c0;clear hN;have h1:(0:Int)<((r.length+1:Nat):Int):=oo;simp only[List.length_cons]at hcl;have hln:=HR.o.ln;simp only[List.length_cons]at hln;cases hk1:(n.t.kind==1)
   .have nk1:¬n.t.kind=1:=by simpa using hk1
    cases hk10:(n.t.kind==10)
    .have ak7:¬n.t.kind=10:=by simpa using hk10
     obtain⟨c,Hc⟩:=Nm (bG aS (n::r));have Qh:Hid (decls l=acc++((iI c.1).toList++decls c.2.2)):=by show _=_;rw[HR.o.eq,Rz nk1 ak7,Hc.o]
     have hrl:c.2.2.length<=r.length:=by have:=jF aS (n::r);rw[Hc.o]at this;simp only[List.length_cons]at this;omega
     have FB:=hid (funext ak5);clear nk1 ak7;have B1:Hid (Below wr.heap.size wr (wr.alloc (.cells #[.string ⟨#[59]⟩] 9))):=Ax.alloc nl _;have IE:Hid (∀j,j<1->(wr.alloc (.cells #[.string ⟨#[59]⟩] 9)).cell? ⟨wr.heap.size,0+j,none⟩=some (.string ([(⟨#[59]⟩:BY)].getD j ByteArray.empty))):=by intro j hj;have hh:(wr.alloc (.cells #[.string ⟨#[59]⟩] 9)).heap[wr.heap.size]?=_:=heap_alloc_new wr _;unfold World.cell?;rw[hh];obtain rfl:j=0:=oo;rfl
     go_wp2_with fail;have hs1:=B1.o.size;have hlt1:wr.heap.size<(wr.alloc (.cells #[.string ⟨#[59]⟩] 9)).heap.size:=by simp
     generalize wr.alloc (.cells #[.string ⟨#[59]⟩] 9)=w1 at *;refine(ail B (n::r) _ [⟨#[59]⟩] _ w1 (HR.o.now.below B1.o oo) oo Ab hlt1 IE.o).mono ?_;rw[FB.o,Hc.o];rintro e w2 ⟨v1,sv,v2,rfl,hcut,hb2⟩;obtain⟨t,ka,ks,kc,rfl,hks,hsome,hbody⟩:=hcut.val;obtain⟨va,vc,rfl⟩:=hcut.ahead.form;obtain⟨ba,bc,rfl⟩:=hcut.behind.form;have X2:=hid (B1.o.trans (hb2.mono hs1));have HA:=hid hcut.ahead;have HBH:=hid hcut.behind;have hs2:=X2.o.size;clear hcut hks hsome hbody hb2 IE hlt1 B1 c0;unfold fB;go_wp2_with fail;refine(CZ B c.1 _ w2 HA.o oo).mono ?_;rintro e w3 ⟨hdc,hb3⟩;have X3:=hid (X2.o.trans (hb3.mono hs2))
     have HB3:=hid (HBH.o.below hb3 oo);have hs3:=X3.o.size;clear hb3;cases hd:iI c.1 with
     |none=>
      rw[hd]at hdc;have amD:e=_:=hdc;subst amD;have X4:Hid (Below wr.heap.size wr (w3.alloc (.cells #[.string ⟨#[]⟩,.slice none 0 0,.bool false] 181))):=X3.o.alloc hs3 _;have FZ:Hid (DcI B w l (.slice ua acc.length uc) acc cs (.slice ba c.2.2.length bc) c.2.2 (w3.alloc (.cells #[.string ⟨#[]⟩,.slice none 0 0,.bool false] 181))):=⟨aP HR.o.row fun k hk=>X4.o.block k (HR.o.row.lt k hk).2,HR.o.cat.keep vS.fair (fun _ h=>h) (fun k hk=>by have hk':k<B:=hk;exact X4.o.block k oo),HB3.o.below (Ax.alloc nl _) oo,HR.o.below.trans (X4.o.mono hsr),by rw[Qh.o,hd];rfl,oo⟩;clear hd;go_wp2_with fail;go_roundg(gk-1);case measure=>omega
      case rel=>exact⟨_,_,acc,cs,c.2.2,rfl,rfl,oo,hal,FZ.o⟩
     |some d=>
      rw[hd]at hdc;obtain⟨vv,rfl,hvv,hps⟩:=hdc;obtain⟨da,dc,rfl⟩:=hvv.form;have HD:Hid (iI c.1=some d):=hd;have HVV:=hid hvv;clear hd hvv;have anm:c.2.2.length+1<=(n::r).length:=by simp;omega
      have D4:Hid (Q3 181 (w3.alloc (.cells #[.string d.prop,.slice da d.val.length dc,.bool d.imp] 181)) w3.heap.size (.string d.prop) (.slice da d.val.length dc) (.bool d.imp)):=Q3.new _ _ _ _ _;have X4:Hid (Below wr.heap.size wr (w3.alloc (.cells #[.string d.prop,.slice da d.val.length dc,.bool d.imp] 181))):=X3.o.alloc hs3 _;have XX4:Hid (Below w3.heap.size w3 (w3.alloc (.cells #[.string d.prop,.slice da d.val.length dc,.bool d.imp] 181))):=Ax.alloc nl _;go_upto_region 7 with fail
      generalize w3.alloc (.cells #[.string d.prop,.slice da d.val.length dc,.bool d.imp] 181)=w4 at *;generalize w3.heap.size=gd at *;obtain⟨p0,p1,p2⟩:=D4.o.cs;have R4:Hid (w4.ownsRow w.heap.size 181 3 (.slice ua acc.length uc) acc.length cs):=aP HR.o.row fun k hk=>X4.o.block k (HR.o.row.lt k hk).2;have CT4:Hid (jC vS (fun b=>b<B) w4 acc cs):=HR.o.cat.keep vS.fair (fun _ h=>h) (fun k hk=>by have hk':k<B:=hk;exact X4.o.block k oo);have BW4:=hid (HR.o.below.trans (X4.o.mono hsr));have hs4:=BW4.o.size;have HO5:Hid ((w4.alloc (.cells #[.string d.prop,.slice da d.val.length dc,.bool d.imp] 181)).ownsRow w.heap.size 181 3 (.slice ua acc.length uc) acc.length cs):=R4.o.alloc _;have hgd:=D4.o.lt;have amE:=hid (HVV.o.below XX4.o oo)
      have HB4:=hid (HB3.o.below XX4.o oo);go_wp2_with(at_builtin;go_must(refine wpList_append_own_at _ rfl _ _ 174 rfl w.heap.size 181 iT (.agg #[.string ⟨#[]⟩,.slice none 0 0,.bool false]) 3 48 Tryz.underlying174 HI.o.1 HI.o.2.1 HI.o.2.2.1 HI.o.2.2.2 rfl oo (.slice ua acc.length uc) acc.length cs rfl HO5.o ⟨w4.heap.size,0,none⟩ 1 1 [.string d.prop,.slice da d.val.length dc,.bool d.imp] rfl rfl (amC _ _ _ _ _) (by simp[Value.oneCell']) As oo An ?_));intro v6 w6 hown6 lS _ aaq;have hlo:∀rr,Value.ownBlock (.slice ua acc.length uc)=some rr->w.heap.size<=rr:=fun rr hr=>(HO5.o.lt rr hr).1;have hb6:Below w.heap.size w4 w6:=(Ax.alloc hs4 _).grown lS An hlo
      have OA:Hid (DcI B w l v6 (acc++[d]) (cs++[.string d.prop,.slice da d.val.length dc,.bool d.imp]) (.slice ba c.2.2.length bc) c.2.2 w6):=⟨by rw[List.length_append];exact hown6,jC.snoc _ _ (CT4.o.keep vS.fair (fun _ h=>h) (fun k hk=>hb6.block k (Nat.lt_of_lt_of_le hk hB))) d _ ⟨_,rfl,amE.o.below hb6 hB,hps⟩,HB4.o.below hb6 hB,BW4.o.trans hb6,by rw[Qh.o,HD.o,List.append_assoc];rfl,by simp;omega⟩;have amF:(acc++[d]).length<=600:=by have:=OA.o.ln;omega
      clear hown6 lS aaq hlo hb6;go_wp2_with fail;go_roundg(gk-1);case measure=>omega
      case rel=>exact⟨_,_,acc++[d],_,c.2.2,rfl,rfl,oo,amF,OA.o⟩
    .have k10:n.t.kind=10:=by simpa using hk10
     obtain⟨c,Hc⟩:=Nm (bG (fun m=>aS m||aK m) r);have Qh:Hid (decls l=acc++decls c.2.2):=by show _=_;rw[HR.o.eq,acP k10,Hc.o]
     have hrl:c.2.2.length<=r.length:=by have:=jF (fun m=>aS m||aK m) r;rw[Hc.o]at this;omega
     clear k10 nk1;go_wp2_with fail;refine(acO B n r _ wr HR.o.now oo).mono ?_;rw[Hc.o];rintro e w2 ⟨hv,bv,v2,rfl,Rj,hbh,hb2⟩;obtain⟨va,vc,rfl⟩:=Rj.head.form;obtain⟨bl,hbl,hbe⟩:=Rj.body;obtain⟨ka,kc,rfl⟩:=hbl.form;obtain⟨ba,bc,rfl⟩:=hbh.form;obtain⟨sb,Hsb⟩:=Nm ((gV c.2.1).isSome);rw[Hsb.o];have FZ:Hid (DcI B w l (.slice ua acc.length uc) acc cs (.slice ba c.2.2.length bc) c.2.2 w2):=⟨aP HR.o.row fun k hk=>hb2.block k (HR.o.row.lt k hk).2,HR.o.cat.keep vS.fair (fun _ h=>h) (fun k hk=>by have hk':k<B:=hk;exact hb2.block k oo),hbh,HR.o.below.trans (hb2.mono hsr),Qh.o,oo⟩;clear Rj hbl hbe hbh hb2 c0;go_wp2_with fail;go_roundg(gk-1);case measure=>omega
     case rel=>exact⟨_,_,acc,cs,c.2.2,rfl,rfl,oo,hal,FZ.o⟩
   .have k1:n.t.kind=1:=by simpa using hk1
    obtain⟨a1,hr1,hS1⟩:=HR.o.now.MH;have FZ:Hid (DcI B w l (.slice ua acc.length uc) acc cs (.slice a1 r.length (cap'-1)) r wr):=⟨HR.o.row,HR.o.cat,hS1,HR.o.below,by rw[HR.o.eq,Ry (by simp[iH,k1])],oo⟩;clear hS1 k1;go_wp2_with fail;go_roundg(gk-1);case measure=>omega
    case rel=>exact⟨_,_,acc,cs,r,rfl,rfl,oo,hal,FZ.o⟩
theorem IK(B:Nat)(l:List Nd)(v:Av)(w:WD)(h:Sl (fun b=>b<B) w v l)(hB:B<=w.heap.size):
  Calls prog 93 #[v] w fun e w'=>∃u,e=.returned u/\SG vS 3 (fun b=>b<w'.heap.size) w' u (decls l)/\Below w.heap.size w w':=by
 refine(xW B l v w h hB).mono ?_;rintro e w' ⟨u,cs,h1,⟨h2,h3,h4,h5⟩,h6⟩;exact⟨u,h1,aje vS.fair vS.sized h2 h3 (fun g hg=>Nat.lt_of_lt_of_le hg h5) h4,h6⟩
end
theorem fD(s:BY)(b i:Nat)(w:WD)(h:Sc w b s i):
  Calls prog 289 #[.pointer (some ⟨b,0,none⟩)] w fun e w'=>e=.returned (.tuple #[])/\aB b s (Sp.mW s i) w w':=by
 have HS:=hid h;clear h;go_in;go_wp2_with fail;refine ji (fun Q' hF=>?_);go_wp2_with fail;go_loopg[] s.size (fun g wr=>∃k:Nat,s.size<=k+g/\Aside (wU s g k=Sp.mW s i/\aB b s k w wr));case atStart=>exact⟨i,oo,rfl,aB.refl HS.o⟩
 case round=>
  obtain⟨k,hk,hA⟩:=hrel;have H1:=hid hA.o.1;have H2:=hid hA.o.2;clear hA;have h0:=H2.o.1.c0;have h1:=H2.o.1.c1;have hf:=H2.o.1.f1;have hl:=H2.o.1.lt;have hs:=H2.o.1.len;cases hbl:fG (pk s k)
  .have HV:Hid (Sp.mW s i=k):=by
    show Sp.mW s i=k;rw[<-H1.o];cases gk with
    |zero=>rfl
    |succ f=>unfold wU;rw[if_neg (by simp[hbl])]
   go_wp2_with fail;refine(ak s b k _ k _ H2.o.1 ⟨oo,oo,oo⟩).mono ?_;rintro e w1 ⟨rfl,n1,rfl⟩;go_wp2_with fail;refine(eY _ _).mono ?_;rintro e w1 ⟨rfl,rfl⟩;go_wp2_with fail;go_step3
   refine hF.go 0 _ _ _ rfl ?_;go_wp2
   simp only[Exit.noGoto];go_end0
   refine⟨rfl,?_⟩;rw[HV.o];exact H2.o.drewN _
  .have hlt:k<s.size:=dY (by have:=kM hbl;omega);obtain⟨f,rfl⟩:∃f,gk=f+1:=⟨gk-1,oo⟩;have HV:Hid (wU s f (k+1)=Sp.mW s i):=by
    have:=H1.o;unfold wU at this;rw[if_pos hbl]at this;exact this
   go_wp2_with fail;refine(ak s b k _ k _ H2.o.1 ⟨oo,oo,oo⟩).mono ?_;rintro e w1 ⟨rfl,n1,rfl⟩;go_wp2_with fail;refine(eY _ _).mono ?_;rintro e w1 ⟨rfl,rfl⟩;go_wp2_with fail;go_roundg f;case measure=>omega
   case rel=>rw[Vx];exact⟨k+1,oo,HV.o,(H2.o.drewN _).set (k+1) oo⟩
theorem jG(s:BY)(b i:Nat)(w:WD)(h:Sc w b s i):
  Calls prog 290 #[.pointer (some ⟨b,0,none⟩)] w fun e w'=>e=.returned (.tuple #[])/\aB b s (iq s i) w w':=by
 have W:Hid (aB b s i w w):=aB.refl h;clear h;have c00:=W.o.1.c0;have c10:=W.o.1.c1;have KY:=W.o.1.f1;have KZ:=W.o.1.lt;have cs0:=W.o.1.len;have La:=W.o.1.le;cases h1:(pk s i != 101)<;>cases h2:(pk s i != 69)
 .exfalso
  simp at h1 h2;omega
 .have E:Hid (pk s i=101):=by show pk s i=101;simpa using h1
  cases hsg:ou (pk s (i+1))
  .cases hd:fG (pk s (i+1))
   .have HV:Hid (iq s i=i):=by show iq s i=i;simp[iq,E.o,mX,hsg,hd]
    go_in;go_wp2_with fail;refine cZ (ak s b (i) _ (i) _ (W.o.1) ⟨oo,oo,oo⟩) fun nq=>?_;go_wp2_with fail;refine cZ (ak s b (i) _ (i+1) _ (W.o.1.drewN _) ⟨oo,oo,oo⟩) fun nq=>?_;go_wp2_with fail;refine jA (gB _ _) ?_;go_wp2_with fail;refine cZ (ak s b (i) _ (i+1) _ (W.o.1.drewN _) ⟨oo,oo,oo⟩) fun nq=>?_;go_wp2_with fail;refine jA (eY _ _) ?_;go_wp2_with fail;go_end0
    refine⟨rfl,?_⟩;rw[HV.o];exact W.o.drewN _
   .have hlt:i+1<s.size:=dY (by have:=kM hd;omega);have HV:Hid (iq s i=mW s (i+1)):=by show iq s i=_;simp[iq,E.o,mX,hsg,hd]
    go_in;go_wp2_with fail;refine cZ (ak s b (i) _ (i) _ (W.o.1) ⟨oo,oo,oo⟩) fun nq=>?_;go_wp2_with fail;refine cZ (ak s b (i) _ (i+1) _ (W.o.1.drewN _) ⟨oo,oo,oo⟩) fun nq=>?_;go_wp2_with fail;refine jA (gB _ _) ?_;go_wp2_with fail;refine cZ (ak s b (i) _ (i+1) _ (W.o.1.drewN _) ⟨oo,oo,oo⟩) fun nq=>?_;go_wp2_with fail;refine jA (eY _ _) ?_;go_wp2_with fail;refine pmb (fD s b (i+1) _ ((W.o.1.drewN _).iP _ (i+1) oo oo)) fun w1 aj=>?_;have W1:Hid (aB b s (mW s (i+1)) w w1):=((W.o.drewN _).iP _ (i+1) oo oo).trans aj;clear aj;go_wp2_with fail;go_end0
    refine⟨rfl,?_⟩;rw[HV.o];exact W1.o
  .cases hd:fG (pk s (i+2))
   .have HV:Hid (iq s i=i):=by show iq s i=i;simp[iq,E.o,mX,hsg,hd]
    go_in;go_wp2_with fail;refine cZ (ak s b (i) _ (i) _ (W.o.1) ⟨oo,oo,oo⟩) fun nq=>?_;go_wp2_with fail;refine cZ (ak s b (i) _ (i+1) _ (W.o.1.drewN _) ⟨oo,oo,oo⟩) fun nq=>?_;go_wp2_with fail;refine jA (gB _ _) ?_;go_wp2_with fail;refine cZ (ak s b (i) _ (i+2) _ (W.o.1.drewN _) ⟨oo,oo,oo⟩) fun nq=>?_;go_wp2_with fail;refine jA (eY _ _) ?_;go_wp2_with fail;go_end0
    refine⟨rfl,?_⟩;rw[HV.o];exact W.o.drewN _
   .have hlt:i+2<s.size:=dY (by have:=kM hd;omega);have HV:Hid (iq s i=mW s (i+2)):=by show iq s i=_;simp[iq,E.o,mX,hsg,hd]
    go_in;go_wp2_with fail;refine cZ (ak s b (i) _ (i) _ (W.o.1) ⟨oo,oo,oo⟩) fun nq=>?_;go_wp2_with fail;refine cZ (ak s b (i) _ (i+1) _ (W.o.1.drewN _) ⟨oo,oo,oo⟩) fun nq=>?_;go_wp2_with fail;refine jA (gB _ _) ?_;go_wp2_with fail;refine cZ (ak s b (i) _ (i+2) _ (W.o.1.drewN _) ⟨oo,oo,oo⟩) fun nq=>?_;go_wp2_with fail;refine jA (eY _ _) ?_;go_wp2_with fail;refine pmb (fD s b (i+2) _ ((W.o.1.drewN _).iP _ (i+2) oo oo)) fun w1 aj=>?_;have W1:Hid (aB b s (mW s (i+2)) w w1):=((W.o.drewN _).iP _ (i+2) oo oo).trans aj;clear aj;go_wp2_with fail;go_end0
    refine⟨rfl,?_⟩;rw[HV.o];exact W1.o
 .have E:Hid (pk s i=69):=by show pk s i=69;simpa using h2
  cases hsg:ou (pk s (i+1))
  .cases hd:fG (pk s (i+1))
   .have HV:Hid (iq s i=i):=by show iq s i=i;simp[iq,E.o,mX,hsg,hd]
    go_in;go_wp2_with fail;refine cZ (ak s b (i) _ (i) _ (W.o.1) ⟨oo,oo,oo⟩) fun nq=>?_;go_wp2_with fail;refine cZ (ak s b (i) _ (i) _ (W.o.1.drewN _) ⟨oo,oo,oo⟩) fun nq=>?_;go_wp2_with fail;refine cZ (ak s b (i) _ (i+1) _ (W.o.1.drewN _) ⟨oo,oo,oo⟩) fun nq=>?_;go_wp2_with fail;refine jA (gB _ _) ?_;go_wp2_with fail;refine cZ (ak s b (i) _ (i+1) _ (W.o.1.drewN _) ⟨oo,oo,oo⟩) fun nq=>?_;go_wp2_with fail;refine jA (eY _ _) ?_;go_wp2_with fail;go_end0
    refine⟨rfl,?_⟩;rw[HV.o];exact W.o.drewN _
   .have hlt:i+1<s.size:=dY (by have:=kM hd;omega);have HV:Hid (iq s i=mW s (i+1)):=by show iq s i=_;simp[iq,E.o,mX,hsg,hd]
    go_in;go_wp2_with fail;refine cZ (ak s b (i) _ (i) _ (W.o.1) ⟨oo,oo,oo⟩) fun nq=>?_;go_wp2_with fail;refine cZ (ak s b (i) _ (i) _ (W.o.1.drewN _) ⟨oo,oo,oo⟩) fun nq=>?_;go_wp2_with fail;refine cZ (ak s b (i) _ (i+1) _ (W.o.1.drewN _) ⟨oo,oo,oo⟩) fun nq=>?_;go_wp2_with fail;refine jA (gB _ _) ?_;go_wp2_with fail;refine cZ (ak s b (i) _ (i+1) _ (W.o.1.drewN _) ⟨oo,oo,oo⟩) fun nq=>?_;go_wp2_with fail;refine jA (eY _ _) ?_;go_wp2_with fail;refine pmb (fD s b (i+1) _ ((W.o.1.drewN _).iP _ (i+1) oo oo)) fun w1 aj=>?_;have W1:Hid (aB b s (mW s (i+1)) w w1):=((W.o.drewN _).iP _ (i+1) oo oo).trans aj;clear aj;go_wp2_with fail
    go_end0
    refine⟨rfl,?_⟩;rw[HV.o];exact W1.o
  .cases hd:fG (pk s (i+2))
   .have HV:Hid (iq s i=i):=by show iq s i=i;simp[iq,E.o,mX,hsg,hd]
    go_in;go_wp2_with fail;refine cZ (ak s b (i) _ (i) _ (W.o.1) ⟨oo,oo,oo⟩) fun nq=>?_;go_wp2_with fail;refine cZ (ak s b (i) _ (i) _ (W.o.1.drewN _) ⟨oo,oo,oo⟩) fun nq=>?_;go_wp2_with fail;refine cZ (ak s b (i) _ (i+1) _ (W.o.1.drewN _) ⟨oo,oo,oo⟩) fun nq=>?_;go_wp2_with fail;refine jA (gB _ _) ?_;go_wp2_with fail;refine cZ (ak s b (i) _ (i+2) _ (W.o.1.drewN _) ⟨oo,oo,oo⟩) fun nq=>?_;go_wp2_with fail;refine jA (eY _ _) ?_;go_wp2_with fail;go_end0
    refine⟨rfl,?_⟩;rw[HV.o];exact W.o.drewN _
   .have hlt:i+2<s.size:=dY (by have:=kM hd;omega);have HV:Hid (iq s i=mW s (i+2)):=by show iq s i=_;simp[iq,E.o,mX,hsg,hd]
    go_in;go_wp2_with fail;refine cZ (ak s b (i) _ (i) _ (W.o.1) ⟨oo,oo,oo⟩) fun nq=>?_;go_wp2_with fail;refine cZ (ak s b (i) _ (i) _ (W.o.1.drewN _) ⟨oo,oo,oo⟩) fun nq=>?_;go_wp2_with fail;refine cZ (ak s b (i) _ (i+1) _ (W.o.1.drewN _) ⟨oo,oo,oo⟩) fun nq=>?_;go_wp2_with fail;refine jA (gB _ _) ?_;go_wp2_with fail;refine cZ (ak s b (i) _ (i+2) _ (W.o.1.drewN _) ⟨oo,oo,oo⟩) fun nq=>?_;go_wp2_with fail;refine jA (eY _ _) ?_;go_wp2_with fail;refine pmb (fD s b (i+2) _ ((W.o.1.drewN _).iP _ (i+2) oo oo)) fun w1 aj=>?_;have W1:Hid (aB b s (mW s (i+2)) w w1):=((W.o.drewN _).iP _ (i+2) oo oo).trans aj;clear aj;go_wp2_with fail
    go_end0
    refine⟨rfl,?_⟩;rw[HV.o];exact W1.o
 .have HV:Hid (iq s i=i):=by
   show iq s i=i;have g1:pk s i≠101:=by simpa using h1
   have g2:pk s i≠69:=by simpa using h2
   simp[iq,g1,g2]
  go_in;go_wp2_with fail;refine cZ (ak s b (i) _ (i) _ (W.o.1) ⟨oo,oo,oo⟩) fun nq=>?_;go_wp2_with fail;refine cZ (ak s b (i) _ (i) _ (W.o.1.drewN _) ⟨oo,oo,oo⟩) fun nq=>?_;go_wp2_with fail;refine bodyPost_ret (results_none rfl _ _ _) rfl ?_;refine⟨rfl,?_⟩;rw[HV.o];exact W.o.drewN _
theorem IL(s:BY)(b i:Nat)(w:WD)(h:Sc w b s i):
  Calls prog 242 #[.pointer (some ⟨b,0,none⟩)] w fun e w'=>e=.returned (.string (s.extract i (bT s i)))/\aB b s (bT s i) w w':=by
 have W:Hid (aB b s i w w):=aB.refl h;clear h;have c00:=W.o.1.c0;have c10:=W.o.1.c1;have KY:=W.o.1.f1;have KZ:=W.o.1.lt;have cs0:=W.o.1.len;have La:=W.o.1.le;have hge:=afK s i;have hle:=yX W.o.1.le;cases hsg:ou (pk s i)
 .have hk:Hid (mX s i=i):=by show mX s i=i;simp[mX,hsg]
  have hd0:=GX (s:=s) (i:=i) oo;generalize hkk:mW s (i)=k at hd0;have HK:=hid hkk;clear hkk;cases e46:(pk s k==46)
  .have HV:Hid (bT s i=iq s k):=by show bT s i=_;simp only[bT,jL,hk.o,HK.o];rw[if_neg (fun h=>by simp[h.1]at e46)]
   go_in;go_wp2_with fail;refine cZ (ak s b (i) _ (i) _ (W.o.1) ⟨oo,oo,oo⟩) fun nq=>?_;go_wp2_with fail;refine jA (gB _ _) ?_;go_wp2_with fail;refine pmb (fD s b i _ (W.o.1.drewN _)) fun w1 aj=>?_;have W1':Hid (aB b s (mW s i) w w1):=(W.o.drewN _).trans aj;clear aj;have W1:Hid (aB b s k w w1):=by have:=W1'.o;rw[HK.o]at this;exact this
   clear W1';have c01:=W1.o.1.c0;have c11:=W1.o.1.c1;have cf1:=W1.o.1.f1;have cl1:=W1.o.1.lt;have cs1:=W1.o.1.len;have ce1:=W1.o.1.le;go_wp2_with fail;refine cZ (ak s b (k) _ (k) _ (W1.o.1) ⟨oo,oo,oo⟩) fun nq=>?_;go_wp2_with fail;refine pmb (jG s b k _ (W1.o.1.drewN _)) fun w3 aj=>?_;have W3':Hid (aB b s (iq s k) w w3):=(W1.o.drewN _).trans aj;clear aj;have W3:Hid (aB b s (bT s i) w w3):=by have:=W3'.o;rw[<-HV.o]at this;exact this
   clear W3';have c03:=W3.o.1.c0;have c13:=W3.o.1.c1;have cf3:=W3.o.1.f1;have cl3:=W3.o.1.lt;have cs3:=W3.o.1.len;have ce3:=W3.o.1.le;go_wp2_with fail;go_quiet (fail)
   go_wp2_with fail;go_ret;exact⟨rfl,W3.o.drewN _⟩
  .cases edg:fG (pk s (k+1));focus
    have HV:Hid (bT s i=iq s k):=by show bT s i=_;simp only[bT,jL,hk.o,HK.o];rw[if_neg (fun h=>by simp[h.2]at edg)]
    go_in;go_wp2_with fail;refine cZ (ak s b (i) _ (i) _ (W.o.1) ⟨oo,oo,oo⟩) fun nq=>?_;go_wp2_with fail;refine jA (gB _ _) ?_;go_wp2_with fail;refine pmb (fD s b i _ (W.o.1.drewN _)) fun w1 aj=>?_;have W1':Hid (aB b s (mW s i) w w1):=(W.o.drewN _).trans aj;clear aj;have W1:Hid (aB b s k w w1):=by have:=W1'.o;rw[HK.o]at this;exact this
    clear W1';have c01:=W1.o.1.c0;have c11:=W1.o.1.c1;have cf1:=W1.o.1.f1;have cl1:=W1.o.1.lt;have cs1:=W1.o.1.len;have ce1:=W1.o.1.le;go_wp2_with fail;refine cZ (ak s b (k) _ (k) _ (W1.o.1) ⟨oo,oo,oo⟩) fun nq=>?_;go_wp2_with fail;refine cZ (ak s b (k) _ (k+1) _ (W1.o.1.drewN _) ⟨oo,oo,oo⟩) fun nq=>?_;go_wp2_with fail;refine jA (eY _ _) ?_;go_wp2_with fail;refine pmb (jG s b k _ (W1.o.1.drewN _)) fun w3 aj=>?_;have W3':Hid (aB b s (iq s k) w w3):=(W1.o.drewN _).trans aj
   rotate_left;focus
    have hlt:k+1<s.size:=dY (by have:=kM edg;omega);have HV:Hid (bT s i=iq s (mW s (k+1))):=by show bT s i=_;simp only[bT,jL,hk.o,HK.o];rw[if_pos ⟨by simpa using e46,edg⟩]
    go_in;go_wp2_with fail;refine cZ (ak s b (i) _ (i) _ (W.o.1) ⟨oo,oo,oo⟩) fun nq=>?_;go_wp2_with fail;refine jA (gB _ _) ?_;go_wp2_with fail;refine pmb (fD s b i _ (W.o.1.drewN _)) fun w1 aj=>?_;have W1':Hid (aB b s (mW s i) w w1):=(W.o.drewN _).trans aj;clear aj;have W1:Hid (aB b s k w w1):=by have:=W1'.o;rw[HK.o]at this;exact this
    clear W1';have c01:=W1.o.1.c0;have c11:=W1.o.1.c1;have cf1:=W1.o.1.f1;have cl1:=W1.o.1.lt;have cs1:=W1.o.1.len;have ce1:=W1.o.1.le;go_wp2_with fail;refine cZ (ak s b (k) _ (k) _ (W1.o.1) ⟨oo,oo,oo⟩) fun nq=>?_;go_wp2_with fail;refine cZ (ak s b (k) _ (k+1) _ (W1.o.1.drewN _) ⟨oo,oo,oo⟩) fun nq=>?_;go_wp2_with fail;refine jA (eY _ _) ?_;go_wp2_with fail;refine pmb (fD s b (k+1) _ ((W1.o.1.drewN _).iP _ (k+1) oo oo)) fun w2 aj=>?_;have W2:Hid (aB b s (mW s (k+1)) w w2):=((W1.o.drewN _).iP _ (k+1) oo oo).trans aj;clear aj;go_wp2_with fail;refine pmb (jG s b (mW s (k+1)) _ W2.o.1) fun w3 aj=>?_;have W3':Hid (aB b s (iq s (mW s (k+1))) w w3):=W2.o.trans aj
   rotate_left;all_goals
    clear aj;have W3:Hid (aB b s (bT s i) w w3):=by have:=W3'.o;rw[<-HV.o]at this;exact this
    clear W3';have c03:=W3.o.1.c0;have c13:=W3.o.1.c1;have cf3:=W3.o.1.f1;have cl3:=W3.o.1.lt;have cs3:=W3.o.1.len;have ce3:=W3.o.1.le;go_wp2_with fail;go_quiet (fail)
    go_wp2_with fail;go_ret;exact⟨rfl,W3.o.drewN _⟩
 .have hk:Hid (mX s i=i+1):=by show mX s i=i+1;simp[mX,hsg]
  have hlt0:i<s.size:=dY (Yk hsg);have hd0:=GX (s:=s) (i:=i+1) oo;generalize hkk:mW s (i+1)=k at hd0;have HK:=hid hkk;clear hkk;cases e46:(pk s k==46)
  .have HV:Hid (bT s i=iq s k):=by show bT s i=_;simp only[bT,jL,hk.o,HK.o];rw[if_neg (fun h=>by simp[h.1]at e46)]
   go_in;go_wp2_with fail;refine cZ (ak s b (i) _ (i) _ (W.o.1) ⟨oo,oo,oo⟩) fun nq=>?_;go_wp2_with fail;refine jA (gB _ _) ?_;go_wp2_with fail;refine pmb (fD s b (i+1) _ ((W.o.1.drewN _).iP _ (i+1) oo oo)) fun w1 aj=>?_;have W1':Hid (aB b s (mW s (i+1)) w w1):=((W.o.drewN _).iP _ (i+1) oo oo).trans aj;clear aj;have W1:Hid (aB b s k w w1):=by have:=W1'.o;rw[HK.o]at this;exact this
   clear W1';have c01:=W1.o.1.c0;have c11:=W1.o.1.c1;have cf1:=W1.o.1.f1;have cl1:=W1.o.1.lt;have cs1:=W1.o.1.len;have ce1:=W1.o.1.le;go_wp2_with fail;refine cZ (ak s b (k) _ (k) _ (W1.o.1) ⟨oo,oo,oo⟩) fun nq=>?_;go_wp2_with fail;refine pmb (jG s b k _ (W1.o.1.drewN _)) fun w3 aj=>?_;have W3':Hid (aB b s (iq s k) w w3):=(W1.o.drewN _).trans aj;clear aj;have W3:Hid (aB b s (bT s i) w w3):=by have:=W3'.o;rw[<-HV.o]at this;exact this
   clear W3';have c03:=W3.o.1.c0;have c13:=W3.o.1.c1;have cf3:=W3.o.1.f1;have cl3:=W3.o.1.lt;have cs3:=W3.o.1.len;have ce3:=W3.o.1.le;go_wp2_with fail;go_quiet (fail)
   go_wp2_with fail;go_ret;exact⟨rfl,W3.o.drewN _⟩
  .cases edg:fG (pk s (k+1));focus
    have HV:Hid (bT s i=iq s k):=by show bT s i=_;simp only[bT,jL,hk.o,HK.o];rw[if_neg (fun h=>by simp[h.2]at edg)]
    go_in;go_wp2_with fail;refine cZ (ak s b (i) _ (i) _ (W.o.1) ⟨oo,oo,oo⟩) fun nq=>?_;go_wp2_with fail;refine jA (gB _ _) ?_;go_wp2_with fail;refine pmb (fD s b (i+1) _ ((W.o.1.drewN _).iP _ (i+1) oo oo)) fun w1 aj=>?_;have W1':Hid (aB b s (mW s (i+1)) w w1):=((W.o.drewN _).iP _ (i+1) oo oo).trans aj;clear aj;have W1:Hid (aB b s k w w1):=by have:=W1'.o;rw[HK.o]at this;exact this
    clear W1';have c01:=W1.o.1.c0;have c11:=W1.o.1.c1;have cf1:=W1.o.1.f1;have cl1:=W1.o.1.lt;have cs1:=W1.o.1.len;have ce1:=W1.o.1.le;go_wp2_with fail;refine cZ (ak s b (k) _ (k) _ (W1.o.1) ⟨oo,oo,oo⟩) fun nq=>?_;go_wp2_with fail;refine cZ (ak s b (k) _ (k+1) _ (W1.o.1.drewN _) ⟨oo,oo,oo⟩) fun nq=>?_;go_wp2_with fail;refine jA (eY _ _) ?_;go_wp2_with fail;refine pmb (jG s b k _ (W1.o.1.drewN _)) fun w3 aj=>?_;have W3':Hid (aB b s (iq s k) w w3):=(W1.o.drewN _).trans aj
   rotate_left;focus
    have hlt:k+1<s.size:=dY (by have:=kM edg;omega);have HV:Hid (bT s i=iq s (mW s (k+1))):=by show bT s i=_;simp only[bT,jL,hk.o,HK.o];rw[if_pos ⟨by simpa using e46,edg⟩]
    go_in;go_wp2_with fail;refine cZ (ak s b (i) _ (i) _ (W.o.1) ⟨oo,oo,oo⟩) fun nq=>?_;go_wp2_with fail;refine jA (gB _ _) ?_;go_wp2_with fail;refine pmb (fD s b (i+1) _ ((W.o.1.drewN _).iP _ (i+1) oo oo)) fun w1 aj=>?_;have W1':Hid (aB b s (mW s (i+1)) w w1):=((W.o.drewN _).iP _ (i+1) oo oo).trans aj;clear aj;have W1:Hid (aB b s k w w1):=by have:=W1'.o;rw[HK.o]at this;exact this
    clear W1';have c01:=W1.o.1.c0;have c11:=W1.o.1.c1;have cf1:=W1.o.1.f1;have cl1:=W1.o.1.lt;have cs1:=W1.o.1.len;have ce1:=W1.o.1.le;go_wp2_with fail;refine cZ (ak s b (k) _ (k) _ (W1.o.1) ⟨oo,oo,oo⟩) fun nq=>?_;go_wp2_with fail;refine cZ (ak s b (k) _ (k+1) _ (W1.o.1.drewN _) ⟨oo,oo,oo⟩) fun nq=>?_;go_wp2_with fail;refine jA (eY _ _) ?_;go_wp2_with fail;refine pmb (fD s b (k+1) _ ((W1.o.1.drewN _).iP _ (k+1) oo oo)) fun w2 aj=>?_;have W2:Hid (aB b s (mW s (k+1)) w w2):=((W1.o.drewN _).iP _ (k+1) oo oo).trans aj;clear aj;go_wp2_with fail;refine pmb (jG s b (mW s (k+1)) _ W2.o.1) fun w3 aj=>?_;have W3':Hid (aB b s (iq s (mW s (k+1))) w w3):=W2.o.trans aj
   rotate_left;all_goals
    clear aj;have W3:Hid (aB b s (bT s i) w w3):=by have:=W3'.o;rw[<-HV.o]at this;exact this
    clear W3';have c03:=W3.o.1.c0;have c13:=W3.o.1.c1;have cf3:=W3.o.1.f1;have cl3:=W3.o.1.lt;have cs3:=W3.o.1.len;have ce3:=W3.o.1.le;go_wp2_with fail;go_quiet (fail)
    go_wp2_with fail;go_ret;exact⟨rfl,W3.o.drewN _⟩
structure gX(w:WD)(R:Nat):Prop where
 blk:w.heap[R]?=some (.cells #[.int .i64 0,.string ⟨#[]⟩,.string ⟨#[]⟩] 93 (0,0))
theorem gX.new(w:WD):gX (w.alloc (.cells #[.int .i64 0,.string ⟨#[]⟩,.string ⟨#[]⟩] 93 (0,0))) w.heap.size:=⟨heap_alloc_new w _⟩
theorem gX.nh(w:WD):Hid (gX (w.alloc (.cells #[.int .i64 0,.string ⟨#[]⟩,.string ⟨#[]⟩] 93 (0,0))) w.heap.size):=gX.new w
theorem gX.lt{w:WD}{R:Nat}(h:gX w R):R<w.heap.size:=(Ay h.blk)
theorem gX.c0{w:WD}{R:Nat}(h:gX w R):w.cell? ⟨R,0,none⟩=some (.int .i64 0):=by unfold World.cell?;rw[h.blk];rfl
theorem gX.c1{w:WD}{R:Nat}(h:gX w R):w.cell? ⟨R,1,none⟩=some (.string ⟨#[]⟩):=by unfold World.cell?;rw[h.blk];rfl
theorem gX.c2{w:WD}{R:Nat}(h:gX w R):w.cell? ⟨R,2,none⟩=some (.string ⟨#[]⟩):=by unfold World.cell?;rw[h.blk];rfl
theorem gX.f{w:WD}{R:Nat}(h:gX w R)(o:Nat):w.frozen? ⟨R,o,none⟩=false:=by unfold World.frozen?;rw[h.blk];simp
theorem gX.turn{w w':WD}{R b:Nat}(h:gX w R)(ht:Turn b w w')(hb:R≠b):gX w' R:=⟨by rw[ht.block R h.lt hb];exact h.blk⟩
theorem gX.drewN{w:WD}{R:Nat}(h:gX w R)(n:Nat):gX (w.drewN n) R:=⟨h.blk⟩
theorem gX.set{w:WD}{R b o:Nat}(h:gX w R)(hb:R≠b)(v:Av):gX (w.setCell ⟨b,o,none⟩ v) R:=⟨by rw[Below.heap_setCell _ _ _ _ (by exact hb)];exact h.blk⟩
theorem aB.cu{b k:Nat}{s:BY}{w w1:WD}{R:Nat}(h:aB b s k w w1)(hb:b<w.heap.size)(hR:w.heap.size<=R)(o:Nat)(v:Av):aB b s k w (w1.setCell ⟨R,o,none⟩ v):=by
 have hp:=h.1.pos;have hsz:=h.2.size;refine⟨⟨?_,?_,h.1.pos,h.1.len,h.1.le⟩,⟨h.2.os,h.2.tape,h.2.output,by simp[World.setCell];exact h.2.size,fun j hj hjb=>?_⟩⟩
 .rw[Below.heap_setCell _ _ _ _ (by show b≠R;omega)];exact h.1.blk
 .obtain⟨m,hm⟩:=h.1.glob;exact⟨m,by rw[<-hm];exact World.cell?_of_block (w:=w1) (Below.heap_setCell _ _ _ _ (by show(0:Nat)≠R;omega))⟩
 .rw[Below.heap_setCell _ _ _ _ (by show j≠R;omega)];exact h.2.block j hj hjb
def bF(t:Tok):Av:=.agg #[.int .i64 t.kind,.string t.word,.string t.unit]
theorem Nh(s:BY)(b i:Nat)(w:WD)(h:Sc w b s i):
  Calls prog 182 #[.pointer (some ⟨b,0,none⟩)] w fun e w'=>e=.returned (bF (Sp.numeric s i).1)/\aB b s (Sp.numeric s i).2 w w':=by
 have W:=aB.nh h;have hbw:b<w.heap.size:=h.lt;clear h;cases h37:(pk s (bT s i)==37)
 .have n37:¬pk s (bT s i)=37:=by simpa using h37
  cases hbg:iG s (bT s i)
  .have HV:Hid (Sp.numeric s i=(Tok.w 5 (s.extract i (bT s i)),bT s i)):=by
    show _=_;unfold Sp.numeric;dsimp only;rw[if_neg n37,if_neg (by simp[hbg])]
   clear n37;go_in;go_wp2_with fail;refine pmb (IL s b i _ W.o.1) fun w1 aj=>?_;have W1:=hid (W.o.trans aj);have R1:Hid (gX w1 w.heap.size):=(gX.new w).turn aj.2 oo;clear aj;have c01:=W1.o.1.c0;have c11:=W1.o.1.c1;have cf1:=W1.o.1.f1;have cl1:=W1.o.1.lt;have cs1:=W1.o.1.len;have ce1:=W1.o.1.le;go_wp2_with fail;refine cZ (ak s b (bT s i) _ (bT s i) _ (W1.o.1) ⟨oo,oo,oo⟩) fun nq=>?_;go_wp2_with fail;refine cZ (fP s b (bT s i) _ (bT s i) _ (W1.o.1.drewN _) ⟨oo,oo,oo⟩) fun nq=>?_;have r0:=R1.o.c0;have r1:=R1.o.c1;have r2:=R1.o.c2;have rf:=R1.o.f;have rl:=R1.o.lt;go_wp2_with fail;rw[HV.o]
   exact bodyPost_ret (v:=bF (Tok.w 5 (s.extract i (bT s i)))) (by simp[results,Tryz.results182,go_sem,bF,Tok.w,r0,r1,r2];rfl) rfl ⟨rfl,((((W1.o.drewN _)).cu hbw nl _ _).cu hbw nl _ _).cu hbw nl _ _⟩
  .have HV:Hid (Sp.numeric s i=(⟨7,s.extract i (bT s i),(Sp.name s (bT s i)).1⟩,(Sp.name s (bT s i)).2)):=by
    show _=_;unfold Sp.numeric;dsimp only;rw[if_neg n37,if_pos hbg]
   clear n37;go_in;go_wp2_with fail;refine pmb (IL s b i _ W.o.1) fun w1 aj=>?_;have W1:=hid (W.o.trans aj);have R1:Hid (gX w1 w.heap.size):=(gX.new w).turn aj.2 oo;clear aj;go_wp2_with fail;refine cZ (ak s b (bT s i) _ (bT s i) _ (W1.o.1) ⟨oo,oo,oo⟩) fun nq=>?_;go_wp2_with fail;refine cZ (fP s b (bT s i) _ (bT s i) _ (W1.o.1.drewN _) ⟨oo,oo,oo⟩) fun nq=>?_;go_wp2_with fail;refine pmb (Ar s b (bT s i) _ (W1.o.1.drewN _)) fun w2 aj=>?_;have W2:Hid (aB b s (Sp.name s (bT s i)).2 w w2):=(W1.o.drewN _).trans aj;have R2:Hid (gX w2 w.heap.size):=(R1.o.drewN _).turn aj.2 oo;clear aj;have r0:=R2.o.c0;have r1:=R2.o.c1;have r2:=R2.o.c2;have rf:=R2.o.f;have rl:=R2.o.lt;go_wp2_with fail;rw[HV.o]
   exact bodyPost_ret (v:=bF ⟨7,s.extract i (bT s i),(Sp.name s (bT s i)).1⟩) (by simp[results,Tryz.results182,go_sem,bF,r0,r1,r2]) rfl ⟨rfl,((W2.o.cu hbw nl _ _).cu hbw nl _ _).cu hbw nl _ _⟩
 .have hlt:bT s i<s.size:=dY (by have:pk s (bT s i)=37:=(by simpa using h37);omega);have HV:Hid (Sp.numeric s i=(Tok.w 6 (s.extract i (bT s i)),bT s i+1)):=by
   show _=_;unfold Sp.numeric;dsimp only;rw[if_pos (by simpa using h37)]
  go_in;go_wp2_with fail;refine pmb (IL s b i _ W.o.1) fun w1 aj=>?_;have W1:=hid (W.o.trans aj);have R1:Hid (gX w1 w.heap.size):=(gX.new w).turn aj.2 oo;clear aj;have c01:=W1.o.1.c0;have c11:=W1.o.1.c1;have cf1:=W1.o.1.f1;have cl1:=W1.o.1.lt;have cs1:=W1.o.1.len;have ce1:=W1.o.1.le;go_wp2_with fail;refine cZ (ak s b (bT s i) _ (bT s i) _ (W1.o.1) ⟨oo,oo,oo⟩) fun nq=>?_;have r0:=R1.o.c0;have r1:=R1.o.c1;have r2:=R1.o.c2;have rf:=R1.o.f;have rl:=R1.o.lt;go_wp2_with fail;rw[HV.o];exact bodyPost_ret (v:=bF (Tok.w 6 (s.extract i (bT s i)))) (by simp[results,Tryz.results182,go_sem,bF,Tok.w,r0,r1,r2];rfl) rfl ⟨rfl,(((((W1.o.drewN _).iP _ (bT s i+1) oo oo)).cu hbw nl _ _).cu hbw nl _ _).cu hbw nl _ _⟩
theorem gX.alloc{w:WD}{R:Nat}(h:gX w R)(o:Obj):gX (w.alloc o) R:=⟨by rw[Below.heap_alloc _ _ _ h.lt];exact h.blk⟩
theorem gX.grown{w w':WD}{R:Nat}{row:Option Nat}(h:gX w R)(hg:w.grownBy w' row)(hr:∀r,row=some r->R<r):gX w' R:=⟨by rw[hg.block R h.lt (fun e=>by have:=hr R e.symm;omega)];exact h.blk⟩
theorem gX.below{w w':WD}{R:Nat}(h:gX w R)(hb:Below w.heap.size w w'):gX w' R:=⟨by rw[hb.block R h.lt];exact h.blk⟩
theorem FD(ps:List BY):aG (ps++[ByteArray.empty])=aG ps:=by rw[dw];simp
theorem IQ(s:BY)(b i:Nat)(w:WD)(h:Sc w b s i)(hi:i<s.size)(he:s.size<=i+1):
  Calls prog 236 #[.pointer (some ⟨b,0,none⟩)] w fun e w'=>e=.returned (.string ByteArray.empty)/\aB b s (i+1) w w':=by
 have W:Hid (aB b s i w w):=aB.refl h;clear h;have c00:=W.o.1.c0;have c10:=W.o.1.c1;have KY:=W.o.1.f1;have KZ:=W.o.1.lt;have cs0:=W.o.1.len;have La:=W.o.1.le;have e1:(pk s (i+1) == -1)=true:=by rw[oK he];rfl
 go_in;go_wp2_with fail;refine cZ (ak s b (i) _ (i+1) _ (W.o.1) ⟨oo,oo,oo⟩) fun nq=>?_;go_wp2_with fail;go_ret;exact⟨rfl,(W.o.drewN _).iP _ (i+1) oo oo⟩
theorem F5(s:BY)(b i:Nat)(w:WD)(h:Sc w b s i)(hi:i+1<s.size)(he:pk s (i+1)=10):
  Calls prog 236 #[.pointer (some ⟨b,0,none⟩)] w fun e w'=>e=.returned (.string ByteArray.empty)/\aB b s (i+2) w w':=by
 have W:Hid (aB b s i w w):=aB.refl h;clear h;have c00:=W.o.1.c0;have c10:=W.o.1.c1;have KY:=W.o.1.f1;have KZ:=W.o.1.lt;have cs0:=W.o.1.len;have La:=W.o.1.le;have e1:(pk s (i+1) == -1)=false:=by rw[he];rfl
 have e2:(pk s (i+1)==10)=true:=by rw[he];rfl
 clear he;go_in;go_wp2_with fail;refine cZ (ak s b (i) _ (i+1) _ (W.o.1) ⟨oo,oo,oo⟩) fun nq=>?_;go_wp2_with fail;go_ret;exact⟨rfl,(W.o.drewN _).iP _ (i+2) oo oo⟩
theorem IU(s:BY)(b i:Nat)(w:WD)(h:Sc w b s i)(hi:i+1<s.size)(he:¬pk s (i+1)=10):
  Calls prog 236 #[.pointer (some ⟨b,0,none⟩)] w fun e w'=>e=.returned (.string (esc s i).1)/\aB b s (esc s i).2 w w':=by
 have W:Hid (aB b s i w w):=aB.refl h;clear h;have e1:(pk s (i+1) == -1)=false:=by have:=tK hi;simp;omega
 have e2:(pk s (i+1)==10)=false:=by simpa using he
 clear he;go_in;go_wp2_with fail;refine cZ (ak s b (i) _ (i+1) _ (W.o.1) ⟨oo,oo,oo⟩) fun nq=>?_;go_wp2_with fail;refine pmb (BU s b i _ (W.o.1.drewN _) oo) fun w1 aj=>?_;have W1:Hid (aB b s (esc s i).2 w w1):=(W.o.drewN _).trans aj;clear aj;go_wp2_with fail;go_ret;exact⟨rfl,W1.o⟩
theorem ajf(s:BY)(b i:Nat)(w:WD)(h:Sc w b s i)(hi:i<s.size):
  Calls prog 178 #[.pointer (some ⟨b,0,none⟩)] w fun e w'=>e=.returned (bF (txt s (pk s i) (i+1)).1)/\aB b s (txt s (pk s i) (i+1)).2 w w':=by
 have W:=aB.nh h;have hbw:b<w.heap.size:=h.lt;have hs:s.size<=600:=h.len;clear h;obtain⟨iS,wK⟩:=info_str;have HI:=hid wK;clear wK;obtain⟨q,HQ⟩:=Nm (pk s i);rw[HQ.o];have c00:=W.o.1.c0;have c10:=W.o.1.c1;have KY:=W.o.1.f1;have KZ:=W.o.1.lt;have cs0:=W.o.1.len;have La:=W.o.1.le;go_in;go_wp2_with fail;refine ji (fun Q' hF=>?_);go_wp2_with fail;refine(ak s b i _ i _ W.o.1 ⟨oo,oo,oo⟩).mono ?_;rw[HQ.o];rintro e wq ⟨rfl,nq,rfl⟩;go_wp2_with fail
 go_loopg[3] s.size (fun g v3 wr=>∃(v:Av) (k:Nat) (ps:List BY),v=v3/\s.size<=k+g/\ps.length<=k/\total ps<=k/\Aside (lK s q g k (aG ps)=txt s q (i+1)/\wr.ownsRow (w.heap.size+1) 9 1 v ps.length (ps.map Value.string)/\aB b s k w wr/\gX wr w.heap.size));case atStart=>exact⟨_,i+1,[],rfl,oo,by simp,by simp[total],rfl,World.ownsRow_nil _ _ _ _,(W.o.drewN _).iP _ (i+1) oo oo,((gX.new w).drewN _).set oo _⟩
 case round=>
  obtain⟨v3,k,ps,rfl,hk,hpl,hpt,hA⟩:=hrel;have H1:=hid hA.o.1;have HO:=hid hA.o.2.1;have H2:=hid hA.o.2.2.1;have HR:=hid hA.o.2.2.2;clear hA;have c02:=H2.o.1.c0;have c12:=H2.o.1.c1;have cf2:=H2.o.1.f1;have cl2:=H2.o.1.lt;have cs2:=H2.o.1.len;have ce2:=H2.o.1.le;by_cases hend:s.size<=k
  .have e0:(pk s k == -1)=true:=by rw[oK hend];rfl
   have HV:Hid (txt s q (i+1)=(Tok.w 2 (aG ps),k)):=by
    show _=_;rw[<-H1.o];cases gk with
    |zero=>rfl
    |succ f=>unfold lK;rw[if_pos hend]
   go_wp2_with fail;refine cZ (ak s b (k) _ (k) _ (H2.o.1) ⟨oo,oo,oo⟩) fun nq=>?_;go_wp2_with fail;go_step3
   refine hF.go _ _ _ _ rfl ?_;clear hF;go_wp2_with fail;refine pmb (dQ ps (w.heap.size+1) v3 _ (bP HO.o _) oo oo) fun w5 hb5=>?_;have W5:Hid (aB b s (k) w w5):=(H2.o.drewN _).below hb5;have R5:Hid (gX w5 w.heap.size):=(HR.o.drewN _).below hb5;clear hb5;have r0:=R5.o.c0;have r1:=R5.o.c1;have r2:=R5.o.c2;have rf:=R5.o.f;have rl:=R5.o.lt;go_wp2_with fail;try rw[Exit.noGoto_ret]
   refine bodyPost_ret (v:=bF (Tok.w 2 (aG ps))) (by simp[results,Tryz.results178,go_sem,bF,Tok.w,r0,r1,r2];rfl) rfl ⟨?_,?_⟩
   .rw[HV.o]
   .rw[HV.o];exact((W5.o.cu hbw nl _ _).cu hbw nl _ _).cu hbw nl _ _
  .have hlt:k<s.size:=oo;have e0:(pk s k == -1)=false:=by have:=tK hlt;simp;omega
   obtain⟨f,rfl⟩:∃f,gk=f+1:=⟨gk-1,oo⟩;have kT:=H1.o;unfold lK at kT;rw[if_neg hend]at kT;by_cases hq:pk s k=q
   .have e1:(pk s k==q)=true:=by simpa using hq
    have HV:Hid (txt s q (i+1)=(Tok.w 2 (aG ps),k+1)):=by show _=_;rw[<-kT,if_pos hq]
    clear hq kT;go_wp2_with fail;refine cZ (ak s b (k) _ (k) _ (H2.o.1) ⟨oo,oo,oo⟩) fun nq=>?_;go_wp2_with fail;go_step3
    refine hF.go _ _ _ _ rfl ?_;clear hF;go_wp2_with fail;refine pmb (dQ ps (w.heap.size+1) v3 _ (eF (bP HO.o _) ((Turn.refl b _).setCell 1 _) oo) oo oo) fun w5 hb5=>?_;have W5:Hid (aB b s (k+1) w w5):=((H2.o.drewN _).iP _ (k+1) oo oo).below hb5;have R5:Hid (gX w5 w.heap.size):=((HR.o.drewN _).set oo _).below hb5;clear hb5;have r0:=R5.o.c0;have r1:=R5.o.c1;have r2:=R5.o.c2;have rf:=R5.o.f;have rl:=R5.o.lt;go_wp2_with fail;try rw[Exit.noGoto_ret]
    refine bodyPost_ret (v:=bF (Tok.w 2 (aG ps))) (by simp[results,Tryz.results178,go_sem,bF,Tok.w,r0,r1,r2];rfl) rfl ⟨?_,?_⟩
    .rw[HV.o]
    .rw[HV.o];exact((W5.o.cu hbw nl _ _).cu hbw nl _ _).cu hbw nl _ _
   .have e1:(pk s k==q)=false:=by simpa using hq
    rw[if_neg hq]at kT;by_cases h10:pk s k=10
    .have e2:(pk s k==10)=true:=by rw[h10];rfl
     have HV:Hid (txt s q (i+1)=(Tok.k 3,k)):=by show _=_;rw[<-kT,if_pos h10]
     clear hq h10 kT;have r0:=HR.o.c0;have r1:=HR.o.c1;have r2:=HR.o.c2;have rf:=HR.o.f;have rl:=HR.o.lt;go_wp2_with fail;refine cZ (ak s b (k) _ (k) _ (H2.o.1) ⟨oo,oo,oo⟩) fun nq=>?_;go_wp2_with fail;go_step3
     refine hF.go _ _ _ _ rfl ?_;clear hF;go_wp2_with fail;try rw[Exit.noGoto_ret]
     refine bodyPost_ret (v:=bF (Tok.k 3)) (by simp[results,Tryz.results178,go_sem,bF,Tok.k,r0,r1,r2];rfl) rfl ⟨?_,?_⟩
     .rw[HV.o]
     .rw[HV.o];exact(((H2.o.drewN _).cu hbw nl _ _).cu hbw nl _ _).cu hbw nl _ _
    .have e2:(pk s k==10)=false:=by simpa using h10
     rw[if_neg h10]at kT;by_cases h92:pk s k=92
     .have e3:(pk s k==92)=true:=by rw[h92];rfl
      rw[if_pos h92]at kT;by_cases hl1:s.size<=k+1
      .rw[if_pos hl1]at kT;have HV:Hid (lK s q f (k+1) (aG (ps++[ByteArray.empty]))=txt s q (i+1)):=by show _=_;rw[FD];exact kT
       clear hq h10 h92 kT;go_wp2_with fail;refine cZ (ak s b (k) _ (k) _ (H2.o.1) ⟨oo,oo,oo⟩) fun nq=>?_;go_wp2_with fail;refine pmb (IQ s b k _ (H2.o.1.drewN _) hlt hl1) fun w1 aj=>?_;have W1:Hid (aB b s (k+1) w w1):=(H2.o.drewN _).trans aj;have uS:Hid (w1.ownsRow (w.heap.size+1) 9 1 v3 ps.length (ps.map Value.string)):=eF (bP HO.o _) aj.2 oo;have R1:Hid (gX w1 w.heap.size):=(HR.o.drewN _).turn aj.2 oo;clear aj;have hw1:=W1.o.2.size;have hw2:=R1.o.lt
       go_wp2_with(at_builtin;refine wpList_append_own _ rfl _ _ 26 rfl (w.heap.size+1) 9 iS (.string ⟨#[]⟩) 1 16 Tryz.underlying26 HI.o.1 HI.o.2.1 HI.o.2.2.1 HI.o.2.2.2 rfl oo v3 ps.length (ps.map Value.string) rfl (uS.o.alloc _) ⟨w1.heap.size,0,none⟩ 1 1 [.string (ByteArray.empty)] rfl rfl (cell_one_new _ _ _) (aT _) ?_ ?_ ?_ ?_)
       .unfold maxLen;omega
       .omega
       .simp;omega
       intro v4 w2 hown2 jk _;have W2:Hid (aB b s (k+1) w w2):=(W1.o.alloc _).grown jk hbw (fun r hr=>by have:=(uS.o.lt r hr).1;omega);have FW:=hid hown2;have R2:Hid (gX w2 w.heap.size):=(R1.o.alloc _).grown jk (fun r hr=>by have:=(uS.o.lt r hr).1;omega);clear hown2 jk;go_wp2_with fail;go_roundg f;case measure=>omega
       case rel=>
        refine⟨v4,k+1,ps++[ByteArray.empty],rfl,oo,by simp;omega,?_,HV.o,?_,W2.o,R2.o⟩
        .simp[dh,total];omega
        .simpa using FW.o
      .rw[if_neg hl1]at kT;by_cases hln:pk s (k+1)=10
       .rw[if_pos hln]at kT;have HV:Hid (lK s q f (k+2) (aG (ps++[ByteArray.empty]))=txt s q (i+1)):=by show _=_;rw[FD];exact kT
        have HL:=hid hln;clear hq h10 h92 kT hln;go_wp2_with fail;refine cZ (ak s b (k) _ (k) _ (H2.o.1) ⟨oo,oo,oo⟩) fun nq=>?_;go_wp2_with fail;refine pmb (F5 s b k _ (H2.o.1.drewN _) oo HL.o) fun w1 aj=>?_;have W1:Hid (aB b s (k+2) w w1):=(H2.o.drewN _).trans aj;have uS:Hid (w1.ownsRow (w.heap.size+1) 9 1 v3 ps.length (ps.map Value.string)):=eF (bP HO.o _) aj.2 oo;have R1:Hid (gX w1 w.heap.size):=(HR.o.drewN _).turn aj.2 oo;clear aj;have hw1:=W1.o.2.size;have hw2:=R1.o.lt
        go_wp2_with(at_builtin;refine wpList_append_own _ rfl _ _ 26 rfl (w.heap.size+1) 9 iS (.string ⟨#[]⟩) 1 16 Tryz.underlying26 HI.o.1 HI.o.2.1 HI.o.2.2.1 HI.o.2.2.2 rfl oo v3 ps.length (ps.map Value.string) rfl (uS.o.alloc _) ⟨w1.heap.size,0,none⟩ 1 1 [.string (ByteArray.empty)] rfl rfl (cell_one_new _ _ _) (aT _) ?_ ?_ ?_ ?_)
        .unfold maxLen;omega
        .omega
        .simp;omega
        intro v4 w2 hown2 jk _;have W2:Hid (aB b s (k+2) w w2):=(W1.o.alloc _).grown jk hbw (fun r hr=>by have:=(uS.o.lt r hr).1;omega);have FW:=hid hown2;have R2:Hid (gX w2 w.heap.size):=(R1.o.alloc _).grown jk (fun r hr=>by have:=(uS.o.lt r hr).1;omega);clear hown2 jk;go_wp2_with fail;go_roundg f;case measure=>omega
        case rel=>
         refine⟨v4,k+2,ps++[ByteArray.empty],rfl,oo,by simp;omega,?_,HV.o,?_,W2.o,R2.o⟩
         .simp[dh,total];omega
         .simpa using FW.o
       .rw[if_neg hln]at kT;have hge:=uX hlt;have hgt:=oL s k;have HV:Hid (lK s q f (esc s k).2 (aG (ps++[(esc s k).1]))=txt s q (i+1)):=by show _=_;rw[dw];exact kT
        have hsz:Hid ((esc s k).1.size=1):=kN;have HL:=hid hln;clear hq h10 h92 kT hln;go_wp2_with fail;refine cZ (ak s b (k) _ (k) _ (H2.o.1) ⟨oo,oo,oo⟩) fun nq=>?_;go_wp2_with fail;refine pmb (IU s b k _ (H2.o.1.drewN _) oo HL.o) fun w1 aj=>?_;have W1:Hid (aB b s ((esc s k).2) w w1):=(H2.o.drewN _).trans aj;have uS:Hid (w1.ownsRow (w.heap.size+1) 9 1 v3 ps.length (ps.map Value.string)):=eF (bP HO.o _) aj.2 oo;have R1:Hid (gX w1 w.heap.size):=(HR.o.drewN _).turn aj.2 oo;clear aj;have hw1:=W1.o.2.size;have hw2:=R1.o.lt
        go_wp2_with(at_builtin;refine wpList_append_own _ rfl _ _ 26 rfl (w.heap.size+1) 9 iS (.string ⟨#[]⟩) 1 16 Tryz.underlying26 HI.o.1 HI.o.2.1 HI.o.2.2.1 HI.o.2.2.2 rfl oo v3 ps.length (ps.map Value.string) rfl (uS.o.alloc _) ⟨w1.heap.size,0,none⟩ 1 1 [.string ((esc s k).1)] rfl rfl (cell_one_new _ _ _) (aT _) ?_ ?_ ?_ ?_)
        .unfold maxLen;omega
        .omega
        .simp;omega
        intro v4 w2 hown2 jk _;have W2:Hid (aB b s ((esc s k).2) w w2):=(W1.o.alloc _).grown jk hbw (fun r hr=>by have:=(uS.o.lt r hr).1;omega);have FW:=hid hown2;have R2:Hid (gX w2 w.heap.size):=(R1.o.alloc _).grown jk (fun r hr=>by have:=(uS.o.lt r hr).1;omega);clear hown2 jk;go_wp2_with fail;go_roundg f;case measure=>omega
        case rel=>
         refine⟨v4,(esc s k).2,ps++[(esc s k).1],rfl,oo,by simp;omega,?_,HV.o,?_,W2.o,R2.o⟩
         .have:=hsz.o;simp[dh,total,this];omega
         .simpa using FW.o
     .have e3:(pk s k==92)=false:=by simpa using h92
      rw[if_neg h92]at kT;have HV:Hid (lK s q f (k+1) (aG (ps++[one s k]))=txt s q (i+1)):=by show _=_;rw[dw];exact kT
      have hsz:Hid ((one s k).size=1):=iQ hlt;clear hq h10 h92 kT;go_wp2_with fail;refine cZ (ak s b (k) _ (k) _ (H2.o.1) ⟨oo,oo,oo⟩) fun nq=>?_;go_wp2_with fail;refine pmb (Ap s b k _ (H2.o.1.drewN _) hlt) fun w1 aj=>?_;have W1:Hid (aB b s (k+1) w w1):=(H2.o.drewN _).trans aj;have uS:Hid (w1.ownsRow (w.heap.size+1) 9 1 v3 ps.length (ps.map Value.string)):=eF (bP HO.o _) aj.2 oo;have R1:Hid (gX w1 w.heap.size):=(HR.o.drewN _).turn aj.2 oo;clear aj;have hw1:=W1.o.2.size;have hw2:=R1.o.lt
      go_wp2_with(at_builtin;refine wpList_append_own _ rfl _ _ 26 rfl (w.heap.size+1) 9 iS (.string ⟨#[]⟩) 1 16 Tryz.underlying26 HI.o.1 HI.o.2.1 HI.o.2.2.1 HI.o.2.2.2 rfl oo v3 ps.length (ps.map Value.string) rfl (uS.o.alloc _) ⟨w1.heap.size,0,none⟩ 1 1 [.string (one s k)] rfl rfl (cell_one_new _ _ _) (aT _) ?_ ?_ ?_ ?_)
      .unfold maxLen;omega
      .omega
      .simp;omega
      intro v4 w2 hown2 jk _;have W2:Hid (aB b s (k+1) w w2):=(W1.o.alloc _).grown jk hbw (fun r hr=>by have:=(uS.o.lt r hr).1;omega);have FW:=hid hown2;have R2:Hid (gX w2 w.heap.size):=(R1.o.alloc _).grown jk (fun r hr=>by have:=(uS.o.lt r hr).1;omega);clear hown2 jk;go_wp2_with fail;go_roundg f;case measure=>omega
      case rel=>
       refine⟨v4,k+1,ps++[one s k],rfl,oo,by simp;omega,?_,HV.o,?_,W2.o,R2.o⟩
       .have:=hsz.o;simp[dh,total,this];omega
       .simpa using FW.o
