import Derived.Test.YtlliliddljkbfaaGreatDoorC24
import Derived.Test.YtlliliddljkbfaaGreatDoorC26
namespace Go.Proofs.YtlliliddljkbfaaGreatDoor
set_option maxHeartbeats 64000000
set_option maxRecDepth 100000
open Go.Proofs.Tryz (prog)
open Go.RowKit Sp
section
theorem I8(p:ByteArray)(h:1<p.size):((p.extract 0 2).toList==[45,45])=custom p:=by
 rw[aH,Bool.eq_iff_iff];unfold custom;simp only[decide_eq_true_eq,Bool.and_eq_true];have e0:pk p 0=(p[0].toNat:Int):=by unfold pk;rw[dif_pos oo]
 have e1:pk p 1=(p[1].toNat:Int):=by unfold pk;rw[dif_pos h]
 have hx:p.extract 0 2=⟨#[p[0],p[1]]⟩:=by
  apply ByteArray.ext
  rw[ByteArray.data_extract];apply Array.ext
  .have:p.data.size=p.size:=rfl;simp;omega
  .intro i h1 h2;simp at h2;match i,h2 with
   |0,_=>simp;rfl
   |1,_=>simp;rfl
   |k+2,h2=>omega
 rw[hx,e0,e1];constructor
 .intro e;have e2:(#[p[0],p[1]]:Array UInt8)=#[45,45]:=congrArg ByteArray.data e;simp at e2;rw[e2.1,e2.2];exact⟨rfl,rfl⟩
 .rintro ⟨h2,h3⟩;have a0:p[0]=45:=UInt8.toNat_inj.1 (by show p[0].toNat=45;omega);have a1:p[1]=45:=UInt8.toNat_inj.1 (by show p[1].toNat=45;omega);rw[a0,a1]
theorem Aj(p:ByteArray)(h:¬1<p.size):custom p=false:=by
 unfold custom;have e1:pk p 1 = -1:=by unfold pk;rw[dif_neg h]
 rw[e1];simp
theorem I9(s:ByteArray)(h:1<s.size)(w:World):(Instr.slice 9 (.string s) none (some (.int .i64 2)) none).run prog w=.ok (.string (s.extract 0 2)) w:=by rw[run_slice_string_h (P:=prog) w 9 s Tryz.underlying9 .i64 _ oo oo];rfl
theorem WJ(p:ByteArray)(w:World)(hs:p.size<=4000000):Calls prog 64 #[.string p] w fun e w'=>e=.returned (.bool (custom p))/\w'=w:=by
 by_cases h:1<p.size
 .have h1:(1:Int)<(p.size:Int):=oo;have s2:=I9 p h;have HV:Hid (((p.extract 0 2).toList==[45,45])=custom p):=I8 p h;clear h;generalize p.extract 0 2=x at *;go_in;go_wp2_with fail;go_ret;exact⟨aI HV.o,rfl⟩
 .have h1:(p.size:Int)<=1:=oo;have HV:Hid (custom p=false):=Aj p h;clear h;go_in;go_wp2_with fail;go_ret;exact⟨aI HV.o.symm,rfl⟩
theorem PU(p:ByteArray)(w:World)(hs:p.size<=4000000):Calls prog 48 #[.string p] w fun e w'=>e=.returned (.string (je p))/\Below w.heap.size w w':=by
 by_cases h:1<p.size
 .have h1:(1:Int)<(p.size:Int):=oo;have s2:=I9 p h;have HV:Hid (((p.extract 0 2).toList==[45,45])=custom p):=I8 p h;clear h;generalize p.extract 0 2=x at *;cases hx:(x.toList==[45,45])
  .have HP:Hid (small p=je p):=by show _=_;unfold je;rw[<-HV.o,hx];rfl
   go_in;go_wp2_with fail;refine pmb (gW p w hs) fun w1 hb=>?_;go_wp2_with fail;go_ret;exact⟨iW HP.o,hb⟩
  .have HP:Hid (p=je p):=by show _=_;unfold je;rw[<-HV.o,hx];rfl
   go_in;go_wp2_with fail;go_ret;exact⟨iW HP.o,Below.refl _ _⟩
 .have h1:(p.size:Int)<=1:=oo;have HP:Hid (small p=je p):=by show _=_;unfold je;rw[Aj p h];rfl
  clear h;go_in;go_wp2_with fail;refine pmb (gW p w hs) fun w1 hb=>?_;go_wp2_with fail;go_ret;exact⟨iW HP.o,hb⟩
theorem Sl.adt{S:Nat->Prop}{w:World}{a:Option Addr}{cap:Nat}{ns:List Nd}(h:Sl S w (.slice a ns.length cap) ns)(j:Nat)(hj:j<=ns.length):
  (∀W:World,(Instr.slice 59 (.slice a ns.length cap) none (some (.int .i64 (j:Int))) none).run prog W=.ok (.slice a j cap) W)/\Sl S w (.slice a j cap) (ns.take j):=by
 have hc:ns.length<=cap:=by obtain⟨_,_,e,hc,_⟩:=h;cases e;exact hc.1
 refine⟨fun W=>?_,h.init j hj⟩;rw[run_slice_h (P:=prog) W 59 a ns.length cap Tryz.underlying59 .i64 j oo oo];obtain⟨iT,h1,_,h3,_⟩:=pV;have e:prog.elem 59=134:=by kernel_rfl
 by_cases h0:cap=0
 .simp[sizeOf,typeInfo,e,h1,h3,sliced,Result.andThen,h0]
 .have h0':¬0=cap:=fun q=>h0 q.symm;simp[sizeOf,typeInfo,e,h1,h3,sliced,Result.andThen,h0];cases a<;>simp[Addr.add]
theorem Sl.rng{S:Nat->Prop}{w:World}{a:Option Addr}{cap:Nat}{ns:List Nd}(h:Sl S w (.slice a ns.length cap) ns)(i j:Nat)(hij:i<=j)(hj:j<=ns.length):
  ∃a' c',(∀W:World,(Instr.slice 59 (.slice a ns.length cap) (some (.int .i64 (i:Int))) (some (.int .i64 (j:Int))) none).run prog W=.ok (.slice a' (j-i) c') W)/\Sl S w (.slice a' (j-i) c') ((ns.take j).drop i):=by
 have hc:ns.length<=cap:=by obtain⟨_,_,e,hc,_⟩:=h;cases e;exact hc.1
 obtain⟨iT,h1,_,h3,_⟩:=pV;refine⟨if cap=i then a else a.map (·.add (i*4)),cap-i,fun W=>?_,?_⟩
 .rw[run_slice_lh (P:=prog) W 59 a ns.length cap Tryz.underlying59 .i64 .i64 i j oo oo oo];have e:prog.elem 59=134:=by kernel_rfl
  simp[sizeOf,typeInfo,e,h1,h3,sliced,Result.andThen]
 .have:=h.cut i j hij hj;simpa[sliced]using this
section
variable {T:TypeId} {w w':World} {b:Nat} {x0 x1 x2:Value}
theorem Q3.keep(h:Q3 T w b x0 x1 x2)(e:w'.heap[b]?=w.heap[b]?):Q3 T w' b x0 x1 x2:=by show _=_;rw[e];exact h
theorem Q3.set1(h:Q3 T w b x0 x1 x2)(x:Value):Q3 T (w.setCell ⟨b,1,none⟩ x) b x0 x x2:=by have h':w.heap[b]?=_:=h;show _=_;simp only[World.setCell,Array.getElem?_modify,h'];simp
theorem Q3.set2(h:Q3 T w b x0 x1 x2)(x:Value):Q3 T (w.setCell ⟨b,2,none⟩ x) b x0 x1 x:=by have h':w.heap[b]?=_:=h;show _=_;simp only[World.setCell,Array.getElem?_modify,h'];simp
end
theorem WL:∃i,prog.info? 131=some i/\i.zero=some (.agg #[.string ⟨#[]⟩,.slice none 0 0,.bool false])/\i.size=3/\i.bytes=48:=info_parts (by kernel_rfl)
theorem WM(B:Nat)(l:List Nd)(v:Value)(w:World)(h:Sl (fun b=>b<B) w v l)(hB:B<=w.heap.size):
  Calls prog 112 #[v] w fun e w'=>dcP B (dS l) w' e/\Below w.heap.size w w':=by
 have Cc:=h.len;have HS:Hid (Sl (fun b=>b<B) w v l):=h;obtain⟨a,cap,rfl⟩:=h.form;clear h;have R0:Hid (Q3 131 (w.alloc (.cells #[.string ⟨#[]⟩,.slice none 0 0,.bool false] 131)) w.heap.size (.string ⟨#[]⟩) (.slice none 0 0) (.bool false)):=Q3.new _ _ _ _ _;have B0:Hid (Below w.heap.size w (w.alloc (.cells #[.string ⟨#[]⟩,.slice none 0 0,.bool false] 131))):=(Below.refl _ _).alloc nl _;go_in;go_upto_region 1 with fail
 have hsz0:=B0.o.size;have hlt0:=R0.o.lt;generalize w.alloc (.cells #[.string ⟨#[]⟩,.slice none 0 0,.bool false] 131)=w0 at *;obtain⟨rb,mF⟩:∃rb,Hid (w.heap.size=rb):=⟨_,hid rfl⟩;rw[mF.o]at B0 R0 hB hlt0 hsz0⊢;have S0:Hid (Sl (fun b=>b<B) w0 (.slice a l.length cap) l):=HS.o.below B0.o hB;clear HS;cases l with
 |nil=>have HV:Hid (dS []=none):=rfl;have z0:=R0.o.fz 0;have z1:=R0.o.fz 1;have z2:=R0.o.fz 2;obtain⟨q0,q1,q2⟩:=R0.o.cs;go_wp2_with fail;refine bodyPost_ret (v:=.tuple #[.agg #[.string ⟨#[]⟩,.slice none 0 0,.bool false],.bool false]) (by simp[results,Tryz.results112,go_sem,q0,q1,q2]) rfl ?_;exact⟨by rw[HV.o];rfl,by rw[mF.o];exact gu B0.o nl _ _ _⟩
 |cons n r=>
  obtain⟨g,o,nv,cap',hcv,hN,hcap⟩:=S0.o.head;injection hcv with hcv1 _ hcv2
  subst hcv1 hcv2;have hgB:g<B:=hN.s;have c0:=hN.c0;have c1:=hN.c1;have hwd:=hN.ok.word;clear hN;have h1c:((r.length:Int)+1==0)=false:=by simp;omega
  cases hk:(n.t.kind==14)
  .have HV:Hid (dS (n::r)=none):=uT hk;have hkn:(n.t.kind != 14)=true:=by rw[bne,hk];rfl
   have z0:=R0.o.fz 0;have z1:=R0.o.fz 1;have z2:=R0.o.fz 2;obtain⟨q0,q1,q2⟩:=R0.o.cs;go_wp2_with fail;refine bodyPost_ret (v:=.tuple #[.agg #[.string ⟨#[]⟩,.slice none 0 0,.bool false],.bool false]) (by simp[results,Tryz.results112,go_sem,q0,q1,q2]) rfl ?_;exact⟨by rw[HV.o];rfl,by rw[mF.o];exact gu B0.o nl _ _ _⟩
  .have hkn:(n.t.kind != 14)=false:=by rw[bne,hk];rfl
   obtain⟨pr,Hpr⟩:∃pr,Hid (je n.t.word=pr):=⟨_,hid rfl⟩;have hps:(je n.t.word).size<=4000000:=by rw[CO];exact hwd
   rw[Hpr.o]at hps;go_wp2_with fail;refine(PU n.t.word w0 hwd).mono ?_;rw[Hpr.o];rintro e w1 ⟨rfl,hb1⟩;have X1:Hid (Below w0.heap.size w0 (w1.alloc (.cells #[.string pr,.slice none 0 0,.bool false] 131))):=hb1.alloc hb1.size _;have QD:Hid (Q3 131 (w1.alloc (.cells #[.string pr,.slice none 0 0,.bool false] 131)) w1.heap.size (.string pr) (.slice none 0 0) (.bool false)):=Q3.new _ _ _ _ _;have hdb:w0.heap.size<=w1.heap.size:=hb1.size;clear hb1 c0 c1;go_upto_region 4 with fail
   generalize w1.alloc (.cells #[.string pr,.slice none 0 0,.bool false] 131)=w2 at *;generalize w1.heap.size=db at *;have R2:Hid (Q3 131 w2 rb (.string ⟨#[]⟩) (.slice none 0 0) (.bool false)):=R0.o.below X1.o;have B2:Hid (Below rb w w2):=B0.o.trans (X1.o.mono hsz0);have S2:Hid (Sl (fun b=>b<B) w2 (.slice (some ⟨g,o,none⟩) (r.length+1) cap) (n::r)):=S0.o.below X1.o oo;have hdl:=QD.o.lt;obtain⟨a1,hr1,hS1⟩:=S2.o.TR;have qQ:Hid (Sl (fun b=>b<B) w2 (.slice a1 r.length (cap-1)) r):=hS1;clear hS1;go_wp2_with fail;refine(mQ B r _ w2 qQ.o).mono ?_;obtain⟨b,Hb⟩:∃b,Hid (bare r=b):=⟨_,hid rfl⟩;rw[Hb.o];rintro e wq ⟨v2,rfl,hS2,hwq⟩;rw[hwq];have HS2:Hid (Sl (fun b=>b<B) w2 v2 b):=hS2;obtain⟨a2,c2,rfl⟩:=hS2.form;have hl2:=hS2.len;clear hS2 hr1 hwq qQ;cases b with
   |nil=>have HV:Hid (dS (n::r)=none):=CP hk Hb.o;have z0:=R2.o.fz 0;have z1:=R2.o.fz 1;have z2:=R2.o.fz 2;obtain⟨q0,q1,q2⟩:=R2.o.cs;go_wp2_with fail;refine bodyPost_ret (v:=.tuple #[.agg #[.string ⟨#[]⟩,.slice none 0 0,.bool false],.bool false]) (by simp[results,Tryz.results112,go_sem,q0,q1,q2]) rfl ?_;exact⟨by rw[HV.o];rfl,by rw[mF.o];exact gu B2.o nl _ _ _⟩
   |cons c q=>
    have yj:Hid (dS (n::r)=if ay c.t (b1 58)=true then some ⟨je n.t.word,(iy (bare q)).1,(iy (bare q)).2⟩ else none):=CQ hk Hb.o;obtain⟨g2,o2,kv2,cap2,hcv,G6,hcap2⟩:=HS2.o.head;injection hcv with hcv1 _ hcv2
    subst hcv1 hcv2;obtain⟨ka2,kc2,rfl⟩:=G6.k.form;have d0:=G6.c0;have d1:=G6.c1;have d2:=G6.c2;have d3:=G6.c3;clear G6;have h2c:((q.length:Int)+1==0)=false:=by simp;omega
    obtain⟨z2,KI⟩:∃z,Hid (ay c.t (b1 58)=z):=⟨_,hid rfl⟩;rw[KI.o,Hpr.o]at yj;go_wp2_with fail;refine(eU c.t (.slice ka2 c.kids.length kc2) (b1 58) _).mono ?_;rw[KI.o];rintro e w3 ⟨rfl,hb3⟩;have X3:Hid (Below w2.heap.size w2 w3):=hb3;have B3:Hid (Below rb w w3):=B2.o.trans (hb3.mono (by have:=B2.o.size;have:=mF.o;omega));have R3:Hid (Q3 131 w3 rb (.string ⟨#[]⟩) (.slice none 0 0) (.bool false)):=R2.o.below hb3;have QD3:Hid (Q3 131 w3 db (.string pr) (.slice none 0 0) (.bool false)):=QD.o.below hb3;have Om:Hid (Sl (fun b=>b<B) w3 (.slice (some ⟨g2,o2,none⟩) (q.length+1) c2) (c::q)):=HS2.o.below hb3 oo;have hs3:=X3.o.size;clear hb3 d0 d1 d2 d3;cases z2
    .have HV:Hid (dS (n::r)=none):=yj.o;have z0:=R3.o.fz 0;have z1:=R3.o.fz 1;have z2:=R3.o.fz 2;obtain⟨q0,q1,q2⟩:=R3.o.cs;go_wp2_with fail;refine bodyPost_ret (v:=.tuple #[.agg #[.string ⟨#[]⟩,.slice none 0 0,.bool false],.bool false]) (by simp[results,Tryz.results112,go_sem,q0,q1,q2]) rfl ?_;exact⟨by rw[HV.o];rfl,by rw[mF.o];exact gu B3.o nl _ _ _⟩
    .obtain⟨a4,hr4,hS4⟩:=Om.o.TR;have HS4:Hid (Sl (fun b=>b<B) w3 (.slice a4 q.length (c2-1)) q):=hS4;clear hS4;go_wp2_with fail;refine(mQ B q _ w3 HS4.o).mono ?_;obtain⟨bq,Hbq⟩:∃bq,Hid (bare q=bq):=⟨_,hid rfl⟩;rw[Hbq.o]at yj;rw[Hbq.o];rintro e wq ⟨v5,rfl,hS5,hwq⟩;rw[hwq];have HS5:Hid (Sl (fun b=>b<B) w3 v5 bq):=hS5;obtain⟨a5,c5,rfl⟩:=hS5.form;have hl5:=hS5.len;clear hS5 hr4 hwq HS4;by_cases hn1:1<bq.length
     case neg=>
      have hn2:(bq.length:Int)<=1:=oo;have HV:Hid (dS (n::r)=some ⟨pr,bq,false⟩):=by
       have e:iy bq=(bq,false):=by
        match bq,hn1 with
        |[],_=>rfl
        |[x],_=>
         by_cases hx:l9 x gq=true
         .exact uS (by simp) hx rfl
         .exact wB (by simp) (by simpa using hx)
        |_::_::_,h=>simp at h
       show _=_;rw[yj.o,e];rfl
      clear hn1;have QE:Hid (Q3 131 (w3.setCell ⟨db,1,none⟩ (.slice a5 bq.length c5)) db (.string pr) (.slice a5 bq.length c5) (.bool false)):=QD3.o.set1 _;have RE:Hid (Q3 131 (w3.setCell ⟨db,1,none⟩ (.slice a5 bq.length c5)) rb (.string ⟨#[]⟩) (.slice none 0 0) (.bool false)):=R3.o.keep (Below.heap_setCell _ _ _ _ (by show rb≠db;omega));have BE:Hid (Below rb w (w3.setCell ⟨db,1,none⟩ (.slice a5 bq.length c5))):=B3.o.setCell (by show rb<=db;omega) _;have SE:Hid (Sl (fun b=>b<B) (w3.setCell ⟨db,1,none⟩ (.slice a5 bq.length c5)) (.slice a5 bq.length c5) bq):=HS5.o.keep (fun _ h=>h) (fun k hk=>Below.heap_setCell _ _ _ _ (by have hk':k<B:=hk;show k≠db;omega));have y1:=QD3.o.fz 1;obtain⟨p0,p1,p2⟩:=QD3.o.cs;go_upto_region 15 with fail
      clear p0 p1 p2 y1;generalize w3.setCell ⟨db,1,none⟩ (.slice a5 bq.length c5)=wz at *;have z0:=RE.o.fz 0;have z1:=RE.o.fz 1;have z2:=RE.o.fz 2;obtain⟨q0,q1,q2⟩:=RE.o.cs;obtain⟨p0,p1,p2⟩:=QE.o.cs;go_wp2_with fail;refine bodyPost_ret (v:=.tuple #[.agg #[.string pr,.slice a5 bq.length c5,.bool false],.bool true]) (by simp[results,Tryz.results112,go_sem,q0,q1,q2]) rfl ?_;have hst:∀k,k<B->(jr wz rb (.string pr) (.slice a5 bq.length c5) (.bool false)).heap[k]?=wz.heap[k]?:=fun k hk=>mV wz oo _ _ _;exact⟨by rw[HV.o];exact⟨_,rfl,SE.o.keep (fun _ hg=>hg) hst,hps⟩,by rw[mF.o];exact gu BE.o nl _ _ _⟩
     case pos=>
      have hn2:(1:Int)<(bq.length:Int):=oo;have hp:0<bq.length:=oo;obtain⟨g5,o5,rfl,hL5,hcap5⟩:=HS5.o.here (by rintro rfl;simp at hp);obtain⟨kv5,hN5⟩:=hL5.node (i:=bq.length-1) oo;obtain⟨m,hm⟩:∃m,m=bq[bq.length-1]'oo:=⟨_,rfl⟩;rw[<-hm]at hN5;have HNm:Hid (l9 (bq[bq.length-1]'oo) gq=l9 m gq):=by show _=_;rw[<-hm]
      have d0:=hN5.c0;have d1:=hN5.c1;have hmw:=hN5.ok.word;have HD1:Hid (∀wx,Below w3.heap.size w3 wx->wx.cell? ⟨g5,o5+(bq.length-1)*4+1,none⟩=some (.string m.t.word)):=fun wx hb=>by rw[hb.cell (p:=⟨g5,_,none⟩) (by have h':g5<B:=hN5.s;show g5<w3.heap.size;omega)];exact hN5.c1
      clear hN5 hL5 hm;obtain⟨mi,Hmi⟩:∃mi,Hid (bq.length-1=mi):=⟨_,hid rfl⟩;have hmi:(bq.length:Int)-1=(mi:Int):=by have:=Hmi.o;omega
      have afs:IntKind.i64.wrap ((bq.length:Int)-1)=(mi:Int):=by rw[IntKind.wrap_i64];omega
      have aft:(mi:Int)<(bq.length:Int):=oo;have hmin:mi<bq.length:=oo;have afu:(0:Int)<=(mi:Int):=oo;rw[Hmi.o]at d0 d1 HD1;cases hk5:(m.t.kind==14);case false=>
       have HV:Hid (dS (n::r)=some ⟨pr,bq,false⟩):=by
        show _=_;have hq:l9 m gq=false:=by simp at hk5;simp[l9,hk5]
        rw[yj.o,wB hp (by rw[HNm.o];exact hq)];rfl
       have QE:Hid (Q3 131 (w3.setCell ⟨db,1,none⟩ (.slice (some ⟨g5,o5,none⟩) bq.length c5)) db (.string pr) (.slice (some ⟨g5,o5,none⟩) bq.length c5) (.bool false)):=QD3.o.set1 _;have RE:Hid (Q3 131 (w3.setCell ⟨db,1,none⟩ (.slice (some ⟨g5,o5,none⟩) bq.length c5)) rb (.string ⟨#[]⟩) (.slice none 0 0) (.bool false)):=R3.o.keep (Below.heap_setCell _ _ _ _ (by show rb≠db;omega));have BE:Hid (Below rb w (w3.setCell ⟨db,1,none⟩ (.slice (some ⟨g5,o5,none⟩) bq.length c5))):=B3.o.setCell (by show rb<=db;omega) _;have SE:Hid (Sl (fun b=>b<B) (w3.setCell ⟨db,1,none⟩ (.slice (some ⟨g5,o5,none⟩) bq.length c5)) (.slice (some ⟨g5,o5,none⟩) bq.length c5) bq):=HS5.o.keep (fun _ h=>h) (fun k hk=>Below.heap_setCell _ _ _ _ (by have hk':k<B:=hk;show k≠db;omega));have y1:=QD3.o.fz 1;obtain⟨p0,p1,p2⟩:=QD3.o.cs;go_upto_region 15 with fail
       clear p0 p1 p2 y1;generalize w3.setCell ⟨db,1,none⟩ (.slice (some ⟨g5,o5,none⟩) bq.length c5)=wz at *;have z0:=RE.o.fz 0;have z1:=RE.o.fz 1;have z2:=RE.o.fz 2;obtain⟨q0,q1,q2⟩:=RE.o.cs;obtain⟨p0,p1,p2⟩:=QE.o.cs;go_wp2_with fail;refine bodyPost_ret (v:=.tuple #[.agg #[.string pr,.slice (some ⟨g5,o5,none⟩) bq.length c5,.bool false],.bool true]) (by simp[results,Tryz.results112,go_sem,q0,q1,q2]) rfl ?_;have hst:∀k,k<B->(jr wz rb (.string pr) (.slice (some ⟨g5,o5,none⟩) bq.length c5) (.bool false)).heap[k]?=wz.heap[k]?:=fun k hk=>mV wz oo _ _ _;exact⟨by rw[HV.o];exact⟨_,rfl,SE.o.keep (fun _ hg=>hg) hst,hps⟩,by rw[mF.o];exact gu BE.o nl _ _ _⟩
      case true=>
       have HWm:Hid (l9 m gq=((small m.t.word).toList==[105,109,112,111,114,116,97,110,116])):=by show _=_;rw[aH];simp at hk5;simp[l9,hk5];rfl
       obtain⟨lw,Hlw⟩:∃lw,Hid (small m.t.word=lw):=⟨_,hid rfl⟩;rw[Hlw.o]at HWm;go_wp2_with fail;refine(gW m.t.word w3 hmw).mono ?_;rw[Hlw.o];rintro e w6 ⟨rfl,hb6⟩;have X6:Hid (Below w2.heap.size w2 w6):=X3.o.trans (hb6.mono hs3);have B6:Hid (Below rb w w6):=B3.o.trans (hb6.mono (by have:=B3.o.size;have:=mF.o;omega));have R6:Hid (Q3 131 w6 rb (.string ⟨#[]⟩) (.slice none 0 0) (.bool false)):=R3.o.below hb6;have QD6:Hid (Q3 131 w6 db (.string pr) (.slice none 0 0) (.bool false)):=QD3.o.below hb6;have Yu:Hid (Sl (fun b=>b<B) w6 (.slice (some ⟨g5,o5,none⟩) bq.length c5) bq):=HS5.o.below hb6 oo;have hs6:=X6.o.size;clear hb6 d0 d1;cases hw6:(lw.toList==[105,109,112,111,114,116,97,110,116]);case false=>
        have HV:Hid (dS (n::r)=some ⟨pr,bq,false⟩):=by show _=_;rw[yj.o,wB hp (by rw[HNm.o,HWm.o];exact hw6)];rfl
        have QE:Hid (Q3 131 (w6.setCell ⟨db,1,none⟩ (.slice (some ⟨g5,o5,none⟩) bq.length c5)) db (.string pr) (.slice (some ⟨g5,o5,none⟩) bq.length c5) (.bool false)):=QD6.o.set1 _;have RE:Hid (Q3 131 (w6.setCell ⟨db,1,none⟩ (.slice (some ⟨g5,o5,none⟩) bq.length c5)) rb (.string ⟨#[]⟩) (.slice none 0 0) (.bool false)):=R6.o.keep (Below.heap_setCell _ _ _ _ (by show rb≠db;omega));have BE:Hid (Below rb w (w6.setCell ⟨db,1,none⟩ (.slice (some ⟨g5,o5,none⟩) bq.length c5))):=B6.o.setCell (by show rb<=db;omega) _;have SE:Hid (Sl (fun b=>b<B) (w6.setCell ⟨db,1,none⟩ (.slice (some ⟨g5,o5,none⟩) bq.length c5)) (.slice (some ⟨g5,o5,none⟩) bq.length c5) bq):=Yu.o.keep (fun _ h=>h) (fun k hk=>Below.heap_setCell _ _ _ _ (by have hk':k<B:=hk;show k≠db;omega));have y1:=QD6.o.fz 1;obtain⟨p0,p1,p2⟩:=QD6.o.cs;go_upto_region 15 with fail
        clear p0 p1 p2 y1;generalize w6.setCell ⟨db,1,none⟩ (.slice (some ⟨g5,o5,none⟩) bq.length c5)=wz at *;have z0:=RE.o.fz 0;have z1:=RE.o.fz 1;have z2:=RE.o.fz 2;obtain⟨q0,q1,q2⟩:=RE.o.cs;obtain⟨p0,p1,p2⟩:=QE.o.cs;go_wp2_with fail;refine bodyPost_ret (v:=.tuple #[.agg #[.string pr,.slice (some ⟨g5,o5,none⟩) bq.length c5,.bool false],.bool true]) (by simp[results,Tryz.results112,go_sem,q0,q1,q2]) rfl ?_;have hst:∀k,k<B->(jr wz rb (.string pr) (.slice (some ⟨g5,o5,none⟩) bq.length c5) (.bool false)).heap[k]?=wz.heap[k]?:=fun k hk=>mV wz oo _ _ _;exact⟨by rw[HV.o];exact⟨_,rfl,SE.o.keep (fun _ hg=>hg) hst,hps⟩,by rw[mF.o];exact gu BE.o nl _ _ _⟩
       case true=>
        have HWT:Hid (l9 (bq[bq.length-1]'oo) gq=true):=by show _=_;rw[HNm.o,HWm.o];exact hw6
        obtain⟨hr7,hS7⟩:=Yu.o.adt mi oo;have HS7:Hid (Sl (fun b=>b<B) w6 (.slice (some ⟨g5,o5,none⟩) mi c5) (bq.take mi)):=hS7;have aeo:(bq.take mi).length=mi:=by rw[List.length_take];omega
        clear hS7;go_wp2_with fail;refine(mQ B (bq.take mi) _ w6 HS7.o).mono ?_;obtain⟨bw,Hbw⟩:∃bw,Hid (bare (bq.take mi)=bw):=⟨_,hid rfl⟩;rw[Hbw.o];rintro e wq ⟨v8,rfl,hS8,hwq⟩;rw[hwq];have WO:Hid (Sl (fun b=>b<B) w6 v8 bw):=hS8;obtain⟨a8,c8,rfl⟩:=hS8.form;have hl8:=hS8.len;clear hS8 hwq hr7 aeo;by_cases hz8:bw.length=0
        case pos=>
         have HV:Hid (dS (n::r)=some ⟨pr,bq,false⟩):=by show _=_;rw[yj.o,uS hp HWT.o (by rw[Hmi.o,Hbw.o];exact List.eq_nil_of_length_eq_zero hz8)];rfl
         have hq8:(bw.length:Int)<=0:=oo;clear hz8;have QE:Hid (Q3 131 (w6.setCell ⟨db,1,none⟩ (.slice (some ⟨g5,o5,none⟩) bq.length c5)) db (.string pr) (.slice (some ⟨g5,o5,none⟩) bq.length c5) (.bool false)):=QD6.o.set1 _;have RE:Hid (Q3 131 (w6.setCell ⟨db,1,none⟩ (.slice (some ⟨g5,o5,none⟩) bq.length c5)) rb (.string ⟨#[]⟩) (.slice none 0 0) (.bool false)):=R6.o.keep (Below.heap_setCell _ _ _ _ (by show rb≠db;omega));have BE:Hid (Below rb w (w6.setCell ⟨db,1,none⟩ (.slice (some ⟨g5,o5,none⟩) bq.length c5))):=B6.o.setCell (by show rb<=db;omega) _;have SE:Hid (Sl (fun b=>b<B) (w6.setCell ⟨db,1,none⟩ (.slice (some ⟨g5,o5,none⟩) bq.length c5)) (.slice (some ⟨g5,o5,none⟩) bq.length c5) bq):=Yu.o.keep (fun _ h=>h) (fun k hk=>Below.heap_setCell _ _ _ _ (by have hk':k<B:=hk;show k≠db;omega));have y1:=QD6.o.fz 1
         obtain⟨p0,p1,p2⟩:=QD6.o.cs;go_upto_region 15 with fail
         clear p0 p1 p2 y1;generalize w6.setCell ⟨db,1,none⟩ (.slice (some ⟨g5,o5,none⟩) bq.length c5)=wz at *;have z0:=RE.o.fz 0;have z1:=RE.o.fz 1;have z2:=RE.o.fz 2;obtain⟨q0,q1,q2⟩:=RE.o.cs;obtain⟨p0,p1,p2⟩:=QE.o.cs;go_wp2_with fail;refine bodyPost_ret (v:=.tuple #[.agg #[.string pr,.slice (some ⟨g5,o5,none⟩) bq.length c5,.bool false],.bool true]) (by simp[results,Tryz.results112,go_sem,q0,q1,q2]) rfl ?_;have hst:∀k,k<B->(jr wz rb (.string pr) (.slice (some ⟨g5,o5,none⟩) bq.length c5) (.bool false)).heap[k]?=wz.heap[k]?:=fun k hk=>mV wz oo _ _ _;exact⟨by rw[HV.o];exact⟨_,rfl,SE.o.keep (fun _ hg=>hg) hst,hps⟩,by rw[mF.o];exact gu BE.o nl _ _ _⟩
        case neg=>
         have hp8:0<bw.length:=oo;have hq8:(0:Int)<(bw.length:Int):=oo;obtain⟨g8,o8,rfl,hL8,afa⟩:=WO.o.here (by rintro rfl;simp at hp8);obtain⟨kv8,hN8⟩:=hL8.node (i:=bw.length-1) oo;obtain⟨x,hx⟩:∃x,x=bw[bw.length-1]'oo:=⟨_,rfl⟩;rw[<-hx]at hN8;have HVI:Hid (iy bq=if ay x.t (b1 33)=true then(bare (bw.take (bw.length-1)),true) else(bq,false)):=by show _=_;rw[CJ hp HWT.o (by rw[Hmi.o];exact Hbw.o) hp8,hx];rfl
         obtain⟨ka8,kc8,rfl⟩:=hN8.k.form;have d0:=hN8.c0;have d1:=hN8.c1;have d2:=hN8.c2;have d3:=hN8.c3;clear hN8 hL8 hx;obtain⟨m8,Hm8⟩:∃m,Hid (bw.length-1=m):=⟨_,hid rfl⟩;have hm8:(bw.length:Int)-1=(m8:Int):=by have:=Hm8.o;omega
         have afv:IntKind.i64.wrap ((bw.length:Int)-1)=(m8:Int):=by rw[IntKind.wrap_i64];omega
         have afw:(m8:Int)<(bw.length:Int):=oo;have afx:m8<bw.length:=oo;have afy:(0:Int)<=(m8:Int):=oo;rw[Hm8.o]at d0 d1 d2 d3 HVI;obtain⟨z9,Hz9⟩:∃z,Hid (ay x.t (b1 33)=z):=⟨_,hid rfl⟩;rw[Hz9.o]at HVI;go_wp2_with fail;refine(eU x.t (.slice ka8 x.kids.length kc8) (b1 33) _).mono ?_;rw[Hz9.o];rintro e w9 ⟨rfl,DI⟩;have X9:Hid (Below w2.heap.size w2 w9):=X6.o.trans (DI.mono hs6);have B9:Hid (Below rb w w9):=B6.o.trans (DI.mono (by have:=B6.o.size;have:=mF.o;omega));have R9:Hid (Q3 131 w9 rb (.string ⟨#[]⟩) (.slice none 0 0) (.bool false)):=R6.o.below DI;have QD9:Hid (Q3 131 w9 db (.string pr) (.slice none 0 0) (.bool false)):=QD6.o.below DI;have HS9:Hid (Sl (fun b=>b<B) w9 (.slice (some ⟨g5,o5,none⟩) bq.length c5) bq):=Yu.o.below DI oo;have HT9:Hid (Sl (fun b=>b<B) w9 (.slice (some ⟨g8,o8,none⟩) bw.length c8) bw):=WO.o.below DI oo
         have hs9:=X9.o.size;clear DI d0 d1 d2 d3;cases z9;case false=>
          have HV:Hid (dS (n::r)=some ⟨pr,bq,false⟩):=by show _=_;rw[yj.o,HVI.o];rfl
          have QE:Hid (Q3 131 (w9.setCell ⟨db,1,none⟩ (.slice (some ⟨g5,o5,none⟩) bq.length c5)) db (.string pr) (.slice (some ⟨g5,o5,none⟩) bq.length c5) (.bool false)):=QD9.o.set1 _;have RE:Hid (Q3 131 (w9.setCell ⟨db,1,none⟩ (.slice (some ⟨g5,o5,none⟩) bq.length c5)) rb (.string ⟨#[]⟩) (.slice none 0 0) (.bool false)):=R9.o.keep (Below.heap_setCell _ _ _ _ (by show rb≠db;omega));have BE:Hid (Below rb w (w9.setCell ⟨db,1,none⟩ (.slice (some ⟨g5,o5,none⟩) bq.length c5))):=B9.o.setCell (by show rb<=db;omega) _;have SE:Hid (Sl (fun b=>b<B) (w9.setCell ⟨db,1,none⟩ (.slice (some ⟨g5,o5,none⟩) bq.length c5)) (.slice (some ⟨g5,o5,none⟩) bq.length c5) bq):=HS9.o.keep (fun _ h=>h) (fun k hk=>Below.heap_setCell _ _ _ _ (by have hk':k<B:=hk;show k≠db;omega));have y1:=QD9.o.fz 1;obtain⟨p0,p1,p2⟩:=QD9.o.cs;go_upto_region 15 with fail
          clear p0 p1 p2 y1;generalize w9.setCell ⟨db,1,none⟩ (.slice (some ⟨g5,o5,none⟩) bq.length c5)=wz at *;have z0:=RE.o.fz 0;have z1:=RE.o.fz 1;have z2:=RE.o.fz 2;obtain⟨q0,q1,q2⟩:=RE.o.cs;obtain⟨p0,p1,p2⟩:=QE.o.cs;go_wp2_with fail;refine bodyPost_ret (v:=.tuple #[.agg #[.string pr,.slice (some ⟨g5,o5,none⟩) bq.length c5,.bool false],.bool true]) (by simp[results,Tryz.results112,go_sem,q0,q1,q2]) rfl ?_;have hst:∀k,k<B->(jr wz rb (.string pr) (.slice (some ⟨g5,o5,none⟩) bq.length c5) (.bool false)).heap[k]?=wz.heap[k]?:=fun k hk=>mV wz oo _ _ _;exact⟨by rw[HV.o];exact⟨_,rfl,SE.o.keep (fun _ hg=>hg) hst,hps⟩,by rw[mF.o];exact gu BE.o nl _ _ _⟩
         case true=>
          have HV1:Hid (dS (n::r)=some ⟨pr,bare (bw.take m8),true⟩):=by show _=_;rw[yj.o,HVI.o];rfl
          have QDa:Hid (Q3 131 (w9.setCell ⟨db,2,none⟩ (.bool true)) db (.string pr) (.slice none 0 0) (.bool true)):=QD9.o.set2 _;have Ra:Hid (Q3 131 (w9.setCell ⟨db,2,none⟩ (.bool true)) rb (.string ⟨#[]⟩) (.slice none 0 0) (.bool false)):=R9.o.keep (Below.heap_setCell _ _ _ _ (by show rb≠db;omega));have Ba:Hid (Below rb w (w9.setCell ⟨db,2,none⟩ (.bool true))):=B9.o.setCell (by show rb<=db;omega) _;have Ta:Hid (Sl (fun b=>b<B) (w9.setCell ⟨db,2,none⟩ (.bool true)) (.slice (some ⟨g8,o8,none⟩) bw.length c8) bw):=HT9.o.keep (fun _ h=>h) (fun k hk=>Below.heap_setCell _ _ _ _ (by have hk':k<B:=hk;show k≠db;omega));have y2:=QD9.o.fz 2;obtain⟨p0,p1,p2⟩:=QD9.o.cs;go_upto_region 13 with fail
          clear p0 p1 p2 y2;generalize w9.setCell ⟨db,2,none⟩ (.bool true)=wa at *;obtain⟨hra,hSa⟩:=Ta.o.adt m8 oo;have HSa:Hid (Sl (fun b=>b<B) wa (.slice (some ⟨g8,o8,none⟩) m8 c8) (bw.take m8)):=hSa;have aep:(bw.take m8).length=m8:=by rw[List.length_take];omega
          clear hSa;go_wp2_with fail;refine(mQ B (bw.take m8) _ wa HSa.o).mono ?_;obtain⟨bv,Hbv⟩:∃bv,Hid (bare (bw.take m8)=bv):=⟨_,hid rfl⟩;rw[Hbv.o]at HV1;rw[Hbv.o];rintro e wq ⟨vb,rfl,hSb,hwq⟩;rw[hwq];have HSb:Hid (Sl (fun b=>b<B) wa vb bv):=hSb;obtain⟨ab,cb,rfl⟩:=hSb.form;clear hSb hwq hra aep;have HV:Hid (dS (n::r)=some ⟨pr,bv,true⟩):=HV1.o;have QE:Hid (Q3 131 (wa.setCell ⟨db,1,none⟩ (.slice ab bv.length cb)) db (.string pr) (.slice ab bv.length cb) (.bool true)):=QDa.o.set1 _;have RE:Hid (Q3 131 (wa.setCell ⟨db,1,none⟩ (.slice ab bv.length cb)) rb (.string ⟨#[]⟩) (.slice none 0 0) (.bool false)):=Ra.o.keep (Below.heap_setCell _ _ _ _ (by show rb≠db;omega));have BE:Hid (Below rb w (wa.setCell ⟨db,1,none⟩ (.slice ab bv.length cb))):=Ba.o.setCell (by show rb<=db;omega) _
          have SE:Hid (Sl (fun b=>b<B) (wa.setCell ⟨db,1,none⟩ (.slice ab bv.length cb)) (.slice ab bv.length cb) bv):=HSb.o.keep (fun _ h=>h) (fun k hk=>Below.heap_setCell _ _ _ _ (by have hk':k<B:=hk;show k≠db;omega));have y1:=QDa.o.fz 1;obtain⟨p0,p1,p2⟩:=QDa.o.cs;go_upto_region 15 with fail
          clear p0 p1 p2 y1;generalize wa.setCell ⟨db,1,none⟩ (.slice ab bv.length cb)=wz at *;have z0:=RE.o.fz 0;have z1:=RE.o.fz 1;have z2:=RE.o.fz 2;obtain⟨q0,q1,q2⟩:=RE.o.cs;obtain⟨p0,p1,p2⟩:=QE.o.cs;go_wp2_with fail;refine bodyPost_ret (v:=.tuple #[.agg #[.string pr,.slice ab bv.length cb,.bool true],.bool true]) (by simp[results,Tryz.results112,go_sem,q0,q1,q2]) rfl ?_;have hst:∀k,k<B->(jr wz rb (.string pr) (.slice ab bv.length cb) (.bool true)).heap[k]?=wz.heap[k]?:=fun k hk=>mV wz oo _ _ _;exact⟨by rw[HV.o];exact⟨_,rfl,SE.o.keep (fun _ hg=>hg) hst,hps⟩,by rw[mF.o];exact gu BE.o nl _ _ _⟩
end
end Go.Proofs.YtlliliddljkbfaaGreatDoor
