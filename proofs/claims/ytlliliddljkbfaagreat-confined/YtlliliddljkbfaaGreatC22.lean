import Derived.Test.YtlliliddljkbfaaGreatC21
set_option maxHeartbeats 64000000
set_option maxRecDepth 100000
namespace Go.Proofs.YtlliliddljkbfaaGreat
open Go.RowKit Go.Conc Sp
end Go.Proofs.YtlliliddljkbfaaGreat
namespace Go.Proofs.YtlliliddljkbfaaGreat
open Go.Proofs.Tryz (prog)
open Go.RowKit Sp
theorem adX:∀(i:Fin 3) (j k:Fin 6) (x y:Bool),qp ⟨rX i.val,prO.take (1+j.val),fnO.take k.val,atO.take i.val,x,y⟩=true:=by decide +kernel
theorem agT(a b c:Int):qp (Bd a b c)=true:=adX ⟨bK a 3,jJ a oo⟩ ⟨bK b 6,jJ b oo⟩ ⟨bK c 6,jJ c oo⟩ _ _
theorem aa3(a b c:Int):(Bd a b c).root.size<=12:=by
 have:∀i:Fin 3,(rX i.val).size<=12:=by decide
 exact this ⟨bK a 3,jJ a oo⟩
theorem aa4[bV]{s:BY}{p:aF}(hp:qp p=true)(hs:s.size<=600):(dR s p).2=0\/((dR s p).2=2/\(dR s p).1=aA):=by
 unfold dR;rw[if_neg (by simp[hp]),if_neg oo];split
 .exact .inr ⟨rfl,rfl⟩
 .exact .inl rfl
theorem Xx[bV]{s:BY}{p:aF}(hr:p.root.size<=12):(dR s p).1.size<=1200000000:=by
 unfold dR;split
 .show 0<=_;omega
 .split
  .show 0<=_;omega
  .rename_i hs;split
   .show 0<=_;omega
   .have h:=Di (s:=s) oo;have:=zh Xv p hr (depth (bH s)) true (bH s) h.1;show(tY p (depth (bH s)) true (bH s)).size<=_;omega
section
theorem TI(c:Int)(n:Nat)(w:WD)(h: -9223372036854775808<=c/\c<=9223372036854775807)(hn:1<=n/\n<=1000):Calls prog 14 #[.int .i64 c,.int .i64 (n:Int)] w fun e w'=>e=.returned (.int .i64 (bK c n:Int))/\w'=w:=by
 have hp:=Dz c n;have h1:¬((n:Int)=0):=oo;have h2:¬((n:Int) = -1):=oo;by_cases h0:c<0
 .rw[if_pos h0]at hp;have hp':Int.tmod (-(c+1)) (n:Int)=(bK c n:Int):=hp;go_in;go_wp2_with fail;go_ret;exact⟨rfl,rfl⟩
 .rw[if_neg h0]at hp;have hp':Int.tmod c (n:Int)=(bK c n:Int):=hp;go_in;go_wp2_with fail;go_ret;exact⟨rfl,rfl⟩
section
variable {P:Program} {ops:Array Oper} {Q:Exit->Act->WD->Prop} {md:Region.Mode} {S:WD->Prop}
def uI(P:Program)(ops:Array Oper)(S:WD->Prop)(o:Oper)(v:Av)(a:Act):Prop:=Region.wanted o (yielded ops a.tmps)=true/\∀w,S w->∃f args,(execOp a.eval o).run P w=.ok (.enter f args) w/\Calls P f args w fun e w'=>e=.returned v/\w'=w
theorem uI.same{o:Oper}{v:Av}{a a':Act}(h:uI P ops S o v a)(he:execOp a'.eval o=execOp a.eval o)(hw:Region.wanted o (yielded ops a'.tmps)=Region.wanted o (yielded ops a.tmps)):uI P ops S o v a':=by unfold uI at *;rw[he,hw];exact h
theorem uI.op{i:Nat}{o:Oper}{v:Av}{a:Act}(hi:ops[i]?=some o)(hy:uI P ops S o v a){K:Act->WD->Prop}{w:WD}(hS:S w)(h:K (a.put o.dst v) w):wpOp P ops Q i K a w:=by obtain⟨hw,hv⟩:=hy;obtain⟨f,args,h1,h2⟩:=hv w hS;unfold Go.wpOp;simp only[hi,hw,if_true,Oper.wp,h1,Oper.upon];refine .inl (h2.mono ?_);rintro e w' ⟨rfl,rfl⟩;exact h
theorem uI.beside{j:Nat}{oi oj:Oper}{v:Av}(hj:ops[j]?=some oj)(hap:oi.apart ops oj=true)(hsi:∀cs b,oi.op≠.select cs b)(hsj:∀cs b,oj.op≠.select cs b)
  (hQ:∀c a w,Q (.panic c) (a.put oi.dst v) w->Q (.panic c) a w) {K:Act->WD->Prop}{a:Act}{w:WD} (hy:uI P ops S oi v a) (h:wpOp P ops Q j K (a.put oi.dst v) w):
  wpOp P ops Q j (fun a' w'=>uI P ops S oi v a'/\K (a'.put oi.dst v) w') a w:=by
 obtain⟨h1,h2,h3⟩:=Oper.apart_spec hap;have kp:∀(a:Act),uI P ops S oi v a->∀u,uI P ops S oi v (a.put oj.dst u):=fun a hy u=>hy.same (execOp_put oi hsi a oj.dst u h3) (wanted_put oi a oj.dst u h3);have kd:∀d,uI P ops S oi v { a with defers:=d::a.defers }:=fun d=>hy.same rfl rfl;unfold wpOp at *;simp only[hj]at *;rw[wanted_put oj a oi.dst v h1]at h;by_cases hw:Region.wanted oj (yielded ops a.tmps)=true
 .rw[if_pos hw]at h⊢;rcases h with h|⟨ha,hl⟩
  .left;unfold Oper.wp at *;rw[execOp_put oj hsj a oi.dst v h1]at h;revert h
   cases(execOp a.eval oj).run P w with
   |ok n w'=>
    cases n<;>simp only[Oper.upon]<;>intro h
    case value u=>rw[Act.put_comm a v u h2]at h;exact⟨kp a hy u,h⟩
    case skip=>rw[Act.put_comm a v undef h2]at h;exact⟨kp a hy _,h⟩
    case defer d=>refine⟨kp _ (kd d) _,?_⟩;rw[<-Act.put_comm _ v undef h2,<-Act.put_defers];exact h
    case enter f args=>
     refine Calls.mono h fun e w2 he=>?_;cases e with
     |returned u=>exact⟨kp a hy u,by rw[<-Act.put_comm a v u h2];exact he⟩
     |panicked c=>exact hQ _ _ _ he
     |outgrown=>exact he
    case row row args=>exact Rows.mono h fun u w2 he=>⟨kp a hy u,by rw[<-Act.put_comm a v u h2];exact he⟩
    all_goals exact h
   |halt x w'=>cases x<;>simp only[Oper.upon]<;>intro h<;>first|exact h|exact hQ _ _ _ h
  .right;refine⟨?_,hl⟩;unfold Oper.asks at *;rw[execOp_put oj hsj a oi.dst v h1]at ha;exact ha
 .rw[if_neg hw]at h⊢;rw[Act.put_comm a v undef h2]at h;exact⟨kp a hy _,h⟩
theorem JM{i:Nat}{oi:Oper}{v:Av}(hi:ops[i]?=some oi)(hsel:∀(j:Nat) (o:Oper) cs b,ops[j]?=some o->o.op≠.select cs b)(hQ:∀c a w,Q (.panic c) (a.put oi.dst v) w->Q (.panic c) a w):
  ∀(fuel:Nat) (listed:Array Bool) (a:Act) (w:WD),
   (∀j oj,ops[j]?=some oj->j≠i->listed.getD j true=false->(∀e∈oj.after,Region.binds md e=true->e.on≠i)->oi.apart ops oj=true) ->
   i∈Region.ready md ops listed->uI P ops S oi v a->S w->wpAnyH P md ops Q S fuel (listed.setIfInBounds i true) (a.put oi.dst v) w->wpAnyH P md ops Q S (fuel+1) listed a w
 |0,listed,a,w,_,hr,hy,hS,H=>by
  refine⟨fun h=>(by rw[h]at hr;cases hr),fun j hj=>?_⟩;by_cases hji:j=i
  .subst hji;exact hy.op hi hS ⟨hS,H⟩
  .have:=ready_mono hj hji;rw[H.1]at this;cases this
 |fuel+1,listed,a,w,hfree,hr,hy,hS,H=>by
  refine⟨fun h=>(by rw[h]at hr;cases hr),fun j hj=>?_⟩;by_cases hji:j=i
  .subst hji;exact hy.op hi hS ⟨hS,H⟩
  .obtain⟨hjun,oj,hoj,hall⟩:=mem_ready.1 hj;have hnot:∀e∈oj.after,Region.binds md e=true->e.on≠i:=fun e he hb heq=>by
    have k1:=hall e he hb;have k0:=(mem_ready.1 hr).1;rw[heq]at k1;rcases Nat.lt_or_ge i listed.size with h'|h'
    .simp[h']at k0 k1;rw[k0]at k1;cases k1
    .simp[Array.getElem?_eq_none h']at k1
   refine wpOp_mono (fun a' w' h3=>⟨h3.2.1,?_⟩) (hy.beside hoj (hfree j oj hoj hji hjun hnot) (fun cs b=>hsel i oi cs b hi) (fun cs b=>hsel j oj cs b hoj) hQ (H.2 j (ready_mono hj hji)));refine JM hi hsel hQ fuel (listed.setIfInBounds j true) a' w' (fun k ok hk hki hun hno=>?_) (ready_mono hr (Ne.symm hji)) h3.1 h3.2.1 (by rw[Array.setIfInBounds_comm _ _ hji];exact h3.2.2);refine hfree k ok hk hki ?_ hno;by_cases hjk:j=k
   .subst hjk;exact hjun
   .rw[getD_set_ne true hjk]at hun;exact hun
end
theorem tkT{P:Program}{ops:Array Oper}{Q:Exit->Act->WD->Prop}{md:Region.Mode}{S:WD->Prop}(i:Nat){oi:Oper}{v:Av}{fuel:Nat}{listed:Array Bool}{a a':Act}{w:WD}
  (hi:ops[i]?=some oi) (hS:S w) (f:FuncId) (args:Array Av) (hy:∀w,S w->(execOp a.eval oi).run P w=.ok (.enter f args) w) (hc:∀w,S w->Calls P f args w fun e w'=>e=.returned v/\w'=w)
  (h:wpAnyH P md ops Q S fuel (listed.setIfInBounds i true) a' w) (hs:Region.noSelect ops=true:=by kernel_rfl) (hf:Region.free md ops listed i=true:=by kernel_rfl) (hr:(Region.ready md ops listed).contains i=true:=by kernel_rfl)
  (hw:Region.wanted oi (yielded ops a.tmps)=true:=by kernel_rfl)
  (hQ:∀c a w,Q (.panic c) (a.put oi.dst v) w->Q (.panic c) a w:=by exact fun _ _ _ h=>h)
  (ha:a.put oi.dst v=a':=by(try simp only[List.getElem_toArray]);(try simp only[List.getElem_cons_succ]);(try simp only[List.getElem_cons_zero]);(try simp only[Act.put]);(try simp only[List.setIfInBounds_toArray]);(try simp only[List.set_cons_succ]);(try simp only[List.set_cons_zero]);all_goals with_reducible rfl):wpAnyH P md ops Q S (fuel+1) listed a w:=by
 subst ha;exact JM hi (Region.noSelect_spec hs) hQ fuel listed a w (Region.free_spec hi hf) (by simpa using hr) ⟨hw,fun w hSw=>⟨f,args,hy w hSw,hc w hSw⟩⟩ hS h
end
def DC(x y z:Int):Av:=.agg #[.int .i64 x,.int .i64 y,.int .i64 z]
def W3(w:WD)(b:Nat)(x y z:Int):Prop:=w.heap[b]?=some (.cells #[.int .i64 x,.int .i64 y,.int .i64 z] 177 (0,0))
theorem W3.cs{w:WD}{b:Nat}{x y z:Int}(h:W3 w b x y z):w.cell? ⟨b,0,none⟩=some (.int .i64 x)/\w.cell? ⟨b,1,none⟩=some (.int .i64 y)/\w.cell? ⟨b,2,none⟩=some (.int .i64 z):=by have h':w.heap[b]?=_:=h;refine⟨?_,?_,?_⟩<;>(unfold World.cell?;rw[h'];rfl)
theorem W3.lt{w:WD}{b:Nat}{x y z:Int}(h:W3 w b x y z):b<w.heap.size:=(Ay h)
theorem W3.fz{w:WD}{b:Nat}{x y z:Int}(h:W3 w b x y z)(k:Nat):w.frozen? ⟨b,k,none⟩=false:=by have h':w.heap[b]?=_:=h;unfold World.frozen?;rw[h'];simp
theorem W3.alloc{w:WD}{b:Nat}{x y z:Int}(h:W3 w b x y z)(o:Obj):W3 (w.alloc o) b x y z:=by unfold W3;rw[Below.heap_alloc _ _ _ h.lt];exact h
theorem W3.new(w:WD)(x y z:Int):W3 (w.alloc (.cells #[.int .i64 x,.int .i64 y,.int .i64 z] 177)) w.heap.size x y z:=heap_alloc_new w _
theorem ajI(x y z x' y' z':Int)(w:WD)(h1:0<=x/\x<=1000000)(h2:0<=y/\y<=1000000)(h3:0<=z/\z<=1000000)(k1:0<=x'/\x'<=1000000)(k2:0<=y'/\y'<=1000000)(k3:0<=z'/\z'<=1000000):
  Calls prog 225 #[DC x y z,DC x' y' z'] w fun ex w'=>ex=.returned (DC (x+x') (y+y') (z+z'))/\Below w.heap.size w w':=by
 unfold DC;have A0:Hid (W3 (((w.alloc (.cells #[.int .i64 x,.int .i64 y,.int .i64 z] 177)).alloc (.cells #[.int .i64 x',.int .i64 y',.int .i64 z'] 177)).alloc (.cells #[.int .i64 0,.int .i64 0,.int .i64 0] 177)) w.heap.size x y z):=((W3.new w x y z).alloc _).alloc _;have A1:Hid (W3 (((w.alloc (.cells #[.int .i64 x,.int .i64 y,.int .i64 z] 177)).alloc (.cells #[.int .i64 x',.int .i64 y',.int .i64 z'] 177)).alloc (.cells #[.int .i64 0,.int .i64 0,.int .i64 0] 177)) (w.heap.size+1) x' y' z'):=by have:=(W3.new (w.alloc (.cells #[.int .i64 x,.int .i64 y,.int .i64 z] 177)) x' y' z').alloc (.cells #[.int .i64 0,.int .i64 0,.int .i64 0] 177);show W3 _ _ _ _ _;simpa using this
 have A2:Hid (W3 (((w.alloc (.cells #[.int .i64 x,.int .i64 y,.int .i64 z] 177)).alloc (.cells #[.int .i64 x',.int .i64 y',.int .i64 z'] 177)).alloc (.cells #[.int .i64 0,.int .i64 0,.int .i64 0] 177)) (w.heap.size+1+1) 0 0 0):=by
  have h:=W3.new ((w.alloc (.cells #[.int .i64 x,.int .i64 y,.int .i64 z] 177)).alloc (.cells #[.int .i64 x',.int .i64 y',.int .i64 z'] 177)) 0 0 0;have e:((w.alloc (.cells #[.int .i64 x,.int .i64 y,.int .i64 z] 177)).alloc (.cells #[.int .i64 x',.int .i64 y',.int .i64 z'] 177)).heap.size=w.heap.size+1+1:=by simp
  rw[e]at h;exact h
 have B0:Hid (Below w.heap.size w (((w.alloc (.cells #[.int .i64 x,.int .i64 y,.int .i64 z] 177)).alloc (.cells #[.int .i64 x',.int .i64 y',.int .i64 z'] 177)).alloc (.cells #[.int .i64 0,.int .i64 0,.int .i64 0] 177))):=((Ax.alloc nl _).alloc Ab _).alloc An _;go_in;go_wp2_with fail;generalize((w.alloc (.cells #[.int .i64 x,.int .i64 y,.int .i64 z] 177)).alloc (.cells #[.int .i64 x',.int .i64 y',.int .i64 z'] 177)).alloc (.cells #[.int .i64 0,.int .i64 0,.int .i64 0] 177)=w3 at *;obtain⟨b,Hb⟩:=Nm w.heap.size;rw[Hb.o]at A0 A1 A2 B0;rw[Hb.o];obtain⟨a0,a1,a2⟩:=A0.o.cs;obtain⟨c0,c1,c2⟩:=A1.o.cs;obtain⟨r0,r1,r2⟩:=A2.o.cs;have f0:=A0.o.fz 0;have f1:=A0.o.fz 1;have f2:=A0.o.fz 2;have g0:=A2.o.fz 0;have g1:=A2.o.fz 1;have g2:=A2.o.fz 2;refine wp_loop_rounds 4 ?_;rw[rounds_succ]
 go_wp2_with fail;go_region
 go_wp2_with fail;rw[rounds_succ];go_wp2_with fail;go_region
 go_wp2_with fail;rw[rounds_succ];go_wp2_with fail;go_region
 go_wp2_with fail;rw[rounds_succ];go_wp2_with fail;refine bodyPost_ret (v:=.agg #[.int .i64 (x+x'),.int .i64 (y+y'),.int .i64 (z+z')]) (by simp[results,Tryz.results225,go_sem,r0,r1,r2]) rfl ?_;refine⟨rfl,?_⟩;rw[Hb.o];have e:b<=b+1+1:=oo;exact((((((B0.o.setCell (p:=⟨b,0,none⟩) nl _).setCell (p:=⟨b,1,none⟩) nl _).setCell (p:=⟨b,2,none⟩) nl _).setCell (p:=⟨b+1+1,0,none⟩) e _).setCell (p:=⟨b+1+1,1,none⟩) e _).setCell (p:=⟨b+1+1,2,none⟩) e _).drew.drew.drew
theorem below_drewN{b:Nat}{w w':WD}(h:Below b w w')(n:Nat):Below b w (w'.drewN n):=⟨h.os,h.tape,h.output,h.size,h.block⟩
def Pn(x y z x' y' z':Int):Int:=if Lib.compareInt x x'=0 then(if Lib.compareInt y y'=0 then Lib.compareInt z z' else Lib.compareInt y y') else Lib.compareInt x x'
theorem ajJ(x y z x' y' z':Int)(b b':Nat)(w:WD)(h1:W3 w b x y z)(h2:W3 w b' x' y' z'):
  Calls prog 227 #[.slice (some ⟨b,0,none⟩) 3 3,.slice (some ⟨b',0,none⟩) 3 3] w fun ex w'=>ex=.returned (.int .i64 (Pn x y z x' y' z'))/\w'=w:=by
 obtain⟨a0,a1,a2⟩:=h1.cs;obtain⟨c0,c1,c2⟩:=h2.cs;obtain⟨u,Hu⟩:=Nm (Lib.compareInt x x');obtain⟨v,Hv⟩:=Nm (Lib.compareInt y y');obtain⟨t,Ht⟩:=Nm (Lib.compareInt z z');have HR:Hid (Pn x y z x' y' z'=if u=0 then(if v=0 then t else v) else u):=by show _=_;unfold Pn;rw[Hu.o,Hv.o,Ht.o]
 obtain⟨r,Hr⟩:=Nm ((if u=0 then(if v=0 then t else v) else u));rw[HR.o,Hr.o];go_in;go_wp2_with fail;refine wp_loop_rounds 4 ?_;rw[rounds_succ];go_wp2_with fail;refine(Tryz.cmp_Compare_int x x' _).mono ?_;rw[Hu.o];rintro e wq ⟨rfl,hwq⟩;rw[hwq];clear hwq;by_cases hu:u=0
 .subst hu;go_wp2_with fail;rw[rounds_succ];go_wp2_with fail;refine(Tryz.cmp_Compare_int y y' _).mono ?_;rw[Hv.o];rintro e wq ⟨rfl,hwq⟩;rw[hwq];clear hwq;by_cases hv:v=0
  .subst hv;have HE:Hid (t=r):=by have:=Hr.o;show _=_;simpa using this
   go_wp2_with fail;rw[rounds_succ];go_wp2_with fail;refine(Tryz.cmp_Compare_int z z' _).mono ?_;rw[Ht.o];rintro e wq ⟨rfl,hwq⟩;rw[hwq];clear hwq;by_cases ht:t=0
   .subst ht;go_wp2_with fail;rw[rounds_succ];go_wp2_with fail;go_ret;exact⟨by rw[<-HE.o];rfl,rfl⟩
   .have e1:(t==0)=false:=by simpa using ht
    go_wp2_with fail;go_ret;exact⟨by rw[<-HE.o];rfl,rfl⟩
  .have HE:Hid (v=r):=by have:=Hr.o;show _=_;simpa[hv]using this
   have e1:(v==0)=false:=by simpa using hv
   go_wp2_with fail;go_ret;exact⟨by rw[<-HE.o];rfl,rfl⟩
 .have HE:Hid (u=r):=by have:=Hr.o;show _=_;simpa[hu]using this
  have e1:(u==0)=false:=by simpa using hu
  go_wp2_with fail;go_ret;exact⟨by rw[<-HE.o];rfl,rfl⟩
theorem Po(x y z x' y' z':Int)(w:WD):
  Calls prog 159 #[DC x y z,DC x' y' z'] w fun ex w'=>ex=.returned (.int .i64 (Pn x y z x' y' z'))/\Below w.heap.size w w':=by
 unfold DC;have A0:Hid (W3 ((w.alloc (.cells #[.int .i64 x,.int .i64 y,.int .i64 z] 177)).alloc (.cells #[.int .i64 x',.int .i64 y',.int .i64 z'] 177)) w.heap.size x y z):=(W3.new w x y z).alloc _;have A1:Hid (W3 ((w.alloc (.cells #[.int .i64 x,.int .i64 y,.int .i64 z] 177)).alloc (.cells #[.int .i64 x',.int .i64 y',.int .i64 z'] 177)) (w.heap.size+1) x' y' z'):=by have:=W3.new (w.alloc (.cells #[.int .i64 x,.int .i64 y,.int .i64 z] 177)) x' y' z';show W3 _ _ _ _ _;simpa using this
 have B0:Hid (Below w.heap.size w ((w.alloc (.cells #[.int .i64 x,.int .i64 y,.int .i64 z] 177)).alloc (.cells #[.int .i64 x',.int .i64 y',.int .i64 z'] 177))):=(Ax.alloc nl _).alloc Ab _;go_in;go_wp2_with fail;generalize(w.alloc (.cells #[.int .i64 x,.int .i64 y,.int .i64 z] 177)).alloc (.cells #[.int .i64 x',.int .i64 y',.int .i64 z'] 177)=w2 at *;go_quiet ((go_at_call 227;exact Calls.quiet_of_same (ajJ x y z x' y' z' _ _ _ A0.o A1.o)))
 go_wp2_with fail;go_ret;exact⟨rfl,below_drewN B0.o _⟩
theorem wQ(w:WD)(o:Obj):Hid (W3 ((w.alloc o).alloc (.cells #[.int .i64 0,.int .i64 0,.int .i64 0] 177)) (w.heap.size+1) 0 0 0):=by have:=W3.new (w.alloc o) 0 0 0;show W3 _ _ _ _ _;simpa using this
theorem Gf(w:WD)(o:Obj):Hid (Below w.heap.size w ((w.alloc o).alloc (.cells #[.int .i64 0,.int .i64 0,.int .i64 0] 177))):=(Ax.alloc nl _).alloc Ab _
theorem jR{b c:Nat}{w w':WD}(h:Below b w w')(e:b<=c)(x y z:Av):Below b w (((w'.setCell ⟨c,0,none⟩ x).setCell ⟨c,1,none⟩ y).setCell ⟨c,2,none⟩ z):=((h.setCell (p:=⟨c,0,none⟩) e _).setCell (p:=⟨c,1,none⟩) e _).setCell (p:=⟨c,2,none⟩) e _
theorem agU(nm:BY)(w:WD):
  Calls prog 326 #[.agg #[.string nm]] w fun ex w'=>ex=.returned (DC 0 0 1)/\Below w.heap.size w w':=by
 unfold DC;have A0:=wQ w (.cells #[.string nm] 309);have B0:=Gf w (.cells #[.string nm] 309);go_in;go_upto_region 1 with fail
 generalize(w.alloc (.cells #[.string nm] 309)).alloc (.cells #[.int .i64 0,.int .i64 0,.int .i64 0] 177)=w2 at *;obtain⟨r0,r1,r2⟩:=A0.o.cs;have f0:=A0.o.fz 0;have f1:=A0.o.fz 1;have f2:=A0.o.fz 2;go_wp2_with fail;refine bodyPost_ret (v:=.agg #[.int .i64 0,.int .i64 0,.int .i64 1]) (by simp[results,Tryz.results326,go_sem,r0,r1,r2]) rfl ?_;exact⟨rfl,jR B0.o oo _ _ _⟩
theorem ajK(nm:BY)(w:WD):
  Calls prog 335 #[.agg #[.string nm]] w fun ex w'=>ex=.returned (DC 1 0 0)/\Below w.heap.size w w':=by
 unfold DC;have A0:=wQ w (.cells #[.string nm] 332);have B0:=Gf w (.cells #[.string nm] 332);go_in;go_upto_region 1 with fail
 generalize(w.alloc (.cells #[.string nm] 332)).alloc (.cells #[.int .i64 0,.int .i64 0,.int .i64 0] 177)=w2 at *;obtain⟨r0,r1,r2⟩:=A0.o.cs;have f0:=A0.o.fz 0;have f1:=A0.o.fz 1;have f2:=A0.o.fz 2;go_wp2_with fail;refine bodyPost_ret (v:=.agg #[.int .i64 1,.int .i64 0,.int .i64 0]) (by simp[results,Tryz.results335,go_sem,r0,r1,r2]) rfl ?_;exact⟨rfl,jR B0.o oo _ _ _⟩
theorem aa5(nm:BY)(w:WD):
  Calls prog 339 #[.agg #[.string nm]] w fun ex w'=>ex=.returned (DC 0 1 0)/\Below w.heap.size w w':=by
 unfold DC;have A0:=wQ w (.cells #[.string nm] 333);have B0:=Gf w (.cells #[.string nm] 333);go_in;go_upto_region 1 with fail
 generalize(w.alloc (.cells #[.string nm] 333)).alloc (.cells #[.int .i64 0,.int .i64 0,.int .i64 0] 177)=w2 at *;obtain⟨r0,r1,r2⟩:=A0.o.cs;have f0:=A0.o.fz 0;have f1:=A0.o.fz 1;have f2:=A0.o.fz 2;go_wp2_with fail;refine bodyPost_ret (v:=.agg #[.int .i64 0,.int .i64 1,.int .i64 0]) (by simp[results,Tryz.results339,go_sem,r0,r1,r2]) rfl ?_;exact⟨rfl,jR B0.o oo _ _ _⟩
theorem adY(w:WD):
  Calls prog 332 #[.agg #[]] w fun ex w'=>ex=.returned (DC 0 0 0)/\Below w.heap.size w w':=by
 unfold DC;have A0:=wQ w (.cells #[] 311);have B0:=Gf w (.cells #[] 311);go_in;go_upto_region 1 with fail
 generalize(w.alloc (.cells #[] 311)).alloc (.cells #[.int .i64 0,.int .i64 0,.int .i64 0] 177)=w2 at *;obtain⟨r0,r1,r2⟩:=A0.o.cs;have f0:=A0.o.fz 0;have f1:=A0.o.fz 1;have f2:=A0.o.fz 2;go_wp2_with fail;refine bodyPost_ret (v:=.agg #[.int .i64 0,.int .i64 0,.int .i64 0]) (by simp[results,Tryz.results332,go_sem,r0,r1,r2]) rfl ?_;exact⟨rfl,jR B0.o oo _ _ _⟩
theorem agV (W : WD) : (method 503 311 (.agg #[]) "rinse/selectors.weight").run prog W = .ok (332, .agg #[]) W := by kernel_rfl
theorem ajL (nm : BY) (W : WD) : (method 503 309 (.agg #[.string nm]) "rinse/selectors.weight").run prog W = .ok (326, .agg #[.string nm]) W := by kernel_rfl
theorem alH (nm : BY) (W : WD) : (method 503 332 (.agg #[.string nm]) "rinse/selectors.weight").run prog W = .ok (335, .agg #[.string nm]) W := by kernel_rfl
theorem adZ (nm : BY) (W : WD) : (method 503 333 (.agg #[.string nm]) "rinse/selectors.weight").run prog W = .ok (339, .agg #[.string nm]) W := by kernel_rfl
def pwt(k:Nat)(nm:BY):Nat×Nat×Nat:=if k=116 then(if nm=aA then(0,0,0) else(0,0,1)) else if k=35 then(1,0,0) else(0,1,0)
def Pq(x:Nat×Nat×Nat):Av:=DC (x.1:Int) (x.2.1:Int) (x.2.2:Int)
theorem agW(k:Nat)(nm how v:BY)(lv:Av)(pl:Nat)(hk:k=116\/k=35\/k=46):
  ∃ T u K rcv, fE k nm how v lv pl = .iface T u ∧ (∀ W : WD, (method 503 T u "rinse/selectors.weight").run prog W = .ok (K, rcv) W) ∧ (∀ (args : Array Av) (W : WD), (callFunc K args).run prog W = .ok (.enter K args) W) ∧
   ∀w',Calls prog K #[rcv] w' fun e w''=>e=.returned (Pq (pwt k nm))/\Below w'.heap.size w' w'':=by
 unfold fE pwt;rcases hk with rfl|rfl|rfl
 .rw[if_pos rfl,if_pos rfl];by_cases e:nm=aA
  .rw[if_pos e,if_pos e];exact⟨_,_,_,_,rfl,agV,fun _ _=>rfl,fun w'=>adY w'⟩
  .rw[if_neg e,if_neg e];exact⟨_,_,_,_,rfl,ajL nm,fun _ _=>rfl,fun w'=>agU nm w'⟩
 .rw[if_neg (by decide),if_pos rfl,if_neg (by decide),if_pos rfl];exact⟨_,_,_,_,rfl,alH nm,fun _ _=>rfl,fun w'=>ajK nm w'⟩
 .rw[if_neg (by decide),if_neg (by decide),if_pos rfl,if_neg (by decide),if_neg (by decide)];exact⟨_,_,_,_,rfl,adZ nm,fun _ _=>rfl,fun w'=>aa5 nm w'⟩
def Xy(c:Int):Bool:=(decide (97<=c)&&decide (c<=122))||((decide (48<=c)&&decide (c<=57))||c==45)
theorem ad1{s:BY}{k:Nat}(h:k<s.size):Xy (pk s k)=oC s[k]:=by
 rw[YK h];unfold oC Xy;have e1:(s[k]==45)=((s[k].toNat:Int)==45):=by
  rw[Bool.eq_iff_iff];simp;constructor
  .rintro h;rw[h];rfl
  .intro h;exact UInt8.toNat_inj.1 (by have:s[k].toNat=45:=oo;rw[this];rfl)
 rw[e1];have e2:∀(n:Nat),decide (n<=s[k].toNat)=decide ((n:Int)<=(s[k].toNat:Int)):=fun n=>by simp
 have e3:∀(n:Nat),decide (s[k].toNat<=n)=decide ((s[k].toNat:Int)<=(n:Int)):=fun n=>by simp
 rw[e2,e2,e3,e3,Bool.or_assoc];rfl
theorem DF(c:Int)(w:WD):Calls prog 224 #[.int .u8 c] w fun e w'=>e=.returned (.bool (Xy c))/\w'=w:=by
 by_cases h1:97<=c
 .by_cases h2:c<=122
  .have HV:Hid (Xy c=true):=by show _=_;simp[Xy,h1,h2]
   go_in;go_wp2_with fail;go_ret;exact⟨aC HV.o.symm,rfl⟩
  .have h2':122<c:=oo;have h3:48<=c:=oo;have h4:57<c:=oo;have h5:(c==45)=false:=by simp;omega
   have HV:Hid (Xy c=false):=by show _=_;unfold Xy;rw[h5,decide_eq_false h2,decide_eq_false (show ¬c<=57 by omega)];simp
   clear h2;go_in;go_wp2_with fail;go_ret;exact⟨aC (by rw[HV.o,decide_eq_false (show ¬c<=122 by omega),decide_eq_false (show ¬c<=57 by omega)];rfl),rfl⟩
 .have h1':c<97:=oo;by_cases h3:48<=c
  .by_cases h4:c<=57
   .have HV:Hid (Xy c=true):=by show _=_;simp[Xy,h3,h4]
    clear h1;go_in;go_wp2_with fail;go_ret;exact⟨aC HV.o.symm,rfl⟩
   .have h4':57<c:=oo;have h5:(c==45)=false:=by simp;omega
    have HV:Hid (Xy c=false):=by show _=_;unfold Xy;rw[h5,decide_eq_false h1,decide_eq_false h4];simp
    clear h1 h4;go_in;go_wp2_with fail;go_ret;exact⟨aC (by rw[HV.o,decide_eq_false (show ¬c<=57 by omega)]),rfl⟩
  .have h3':c<48:=oo;have HV:Hid (Xy c=(c==45)):=by show _=_;unfold Xy;rw[decide_eq_false h1,decide_eq_false h3];simp
   clear h1 h3;go_in;go_wp2_with fail;go_ret;exact⟨aC HV.o.symm,rfl⟩
def uU(s:BY):Bool:=nameP s&&!decide (s=aA)
theorem DI(s:BY)(w:WD)(hs:s.size<=maxLen):Calls prog 153 #[.string s] w fun e w'=>e=.returned (.bool (uU s))/\w'=w:=by
 unfold maxLen at hs;cases h0:(s.toList==([]:List UInt8))
 .have n0:¬s=aA:=by rw[ay]at h0;simpa[aA]using h0
  have Lm:Hid (uU s=nameP s):=by show _=_;unfold uU;rw[decide_eq_false n0];simp
  clear n0;by_cases h12:12<s.size
  .have amW:(12:Int)<(s.size:Int):=oo;have HV:Hid (uU s=false):=by show _=_;rw[Lm.o];unfold nameP;rw[decide_eq_false (show ¬s.size<=12 by omega)];simp
   go_in;go_wp2_with fail;go_ret;exact⟨aC HV.o.symm,rfl⟩
  .have amW:(s.size:Int)<=12:=oo;have HV1:Hid (uU s=allB oC s):=by show _=_;rw[Lm.o];unfold nameP allB;rw[decide_eq_true (show s.size<=12 by omega)];simp
   go_in;go_wp2_with fail;go_loopg[13] s.size (fun g v wr=>∃k:Nat,k+g=s.size/\v=.int .i64 (k:Int)/\Aside (rJ oC s k=true/\wr=w));case atStart=>exact⟨0,oo,rfl,rfl,rfl⟩
   case round=>
    obtain⟨k,hk,rfl,hA⟩:=hrel;have HA:=hid hA.o.1;obtain rfl:=hA.o.2;clear hA;by_cases hlt:k<s.size
    .have h1:(k:Int)<(s.size:Int):=oo;have hix:=gQ s k hlt;have hpb:=ad1 hlt;obtain⟨z,Hz⟩:=Nm (oC s[k]);have HPB:Hid (Xy (pk s k)=z):=by rw[<-Hz.o];exact hpb
     clear hpb;go_wp2_with fail;refine(DF _ _).mono ?_;rw[HPB.o];rintro e w1 ⟨rfl,rfl⟩;cases z
     .have HV:Hid (uU s=false):=by show _=_;rw[HV1.o];exact x9 oC hlt Hz.o
      go_wp2_with fail;go_ret;exact⟨aC HV.o.symm,rfl⟩
     .have HN:Hid (rJ oC s (k+1)=true):=by show _=_;rw[vU oC hlt,HA.o,Hz.o];rfl
      go_wp2_with fail;go_roundg(s.size-(k+1));case measure=>omega
      case rel=>exact⟨k+1,oo,by congr 1,HN.o,rfl⟩
    .have h1:(s.size:Int)<=(k:Int):=oo;have HV:Hid (uU s=true):=by
      show _=_;rw[HV1.o,<-Eu];have:k=s.size:=oo;rw[<-this];exact HA.o
     go_wp2_with fail;go_ret;exact⟨aC HV.o.symm,rfl⟩
 .have n0:s=aA:=by rw[ay]at h0;simpa[aA]using h0
  have HV:Hid (uU s=false):=by show _=_;unfold uU;rw[decide_eq_true n0];simp
  clear n0;go_in;go_wp2_with fail;go_ret;exact⟨aC HV.o.symm,rfl⟩
def Xz(q:Int)(i:Nat):Bool:=if i=0 then q == -1 else decide (0<=q)&&decide (q<i)
theorem XB(q:Int)(i:Nat)(w:WD):Calls prog 89 #[.int .i64 q,.int .i64 (i:Int)] w fun e w'=>e=.returned (.bool (Xz q i))/\w'=w:=by
 by_cases h0:i=0
 .subst h0;have hz:(((0:Nat):Int)==0)=true:=rfl;have HV:Hid (Xz q 0=(q == -1)):=rfl;go_in;go_wp2_with fail;go_ret;exact⟨aC HV.o.symm,rfl⟩
 .have hz:((i:Int)==0)=false:=by simp;omega
  by_cases h1:0<=q
  .have HV:Hid (Xz q i=decide (q<(i:Int))):=by show _=_;unfold Xz;rw[if_neg h0,decide_eq_true h1];rfl
   clear h0;go_in;go_wp2_with fail;go_ret;exact⟨aC HV.o.symm,rfl⟩
  .have h1':q<0:=oo;have HV:Hid (Xz q i=false):=by show _=_;unfold Xz;rw[if_neg h0,decide_eq_false h1];rfl
   clear h0 h1;go_in;go_wp2_with fail;go_ret;exact⟨aC HV.o.symm,rfl⟩
theorem alI{s:BY}{k:Nat}(h:k<s.size):(s[k]==32)=(pk s k==32):=by
 rw[YK h,Bool.eq_iff_iff];simp;constructor
 .rintro h;rw[h];rfl
 .intro h;exact UInt8.toNat_inj.1 (by have:s[k].toNat=32:=oo;rw[this];rfl)
theorem L6(s:BY)(w:WD)(hs:s.size<=maxLen):Calls prog 154 #[.string s] w fun e w'=>e=.returned (.bool (dK s))/\w'=w:=by
 unfold maxLen at hs;by_cases h24:24<s.size
 .have amX:(24:Int)<(s.size:Int):=oo;have HV:Hid (dK s=false):=by show _=_;unfold dK;rw[decide_eq_false (show ¬s.size<=24 by omega)];simp
  go_in;go_wp2_with fail;go_ret;exact⟨aC HV.o.symm,rfl⟩
 .have amX:(s.size:Int)<=24:=oo;have HV1:Hid (dK s=allB (fun c=>oC c||c==32) s):=by show _=_;unfold dK allB;rw[decide_eq_true (show s.size<=24 by omega)];simp
  go_in;go_wp2_with fail;go_loopg[9] s.size (fun g v wr=>∃k:Nat,k+g=s.size/\v=.int .i64 (k:Int)/\Aside (rJ (fun c=>oC c||c==32) s k=true/\wr=w));case atStart=>exact⟨0,oo,rfl,rfl,rfl⟩
  case round=>
   obtain⟨k,hk,rfl,hA⟩:=hrel;have HA:=hid hA.o.1;obtain rfl:=hA.o.2;clear hA;by_cases hlt:k<s.size
   .have h1:(k:Int)<(s.size:Int):=oo;have hix:=gQ s k hlt;obtain⟨z,Hz⟩:=Nm (oC s[k]);have HPB:Hid (Xy (pk s k)=z):=by rw[<-Hz.o];exact ad1 hlt
    have HSP:Hid ((s[k]==32)=(pk s k==32)):=alI hlt;cases hsp:(pk s k != 32)
    .have HN:Hid (rJ (fun c=>oC c||c==32) s (k+1)=true):=by
      show _=_;have h32:(pk s k==32)=true:=by simpa using hsp
      rw[vU _ hlt,HA.o,HSP.o,h32];simp
     go_wp2_with fail;go_roundg(s.size-(k+1));case measure=>omega
     case rel=>exact⟨k+1,oo,by congr 1,HN.o,rfl⟩
    .have h32:(pk s k==32)=false:=by simpa using hsp
     have H32:=hid h32;clear h32;go_wp2_with fail;refine(DF _ _).mono ?_;rw[HPB.o];rintro e w1 ⟨rfl,rfl⟩;cases z
     .have HV:Hid (dK s=false):=by show _=_;rw[HV1.o];exact x9 _ hlt (by rw[Hz.o,HSP.o,H32.o];rfl)
      go_wp2_with fail;go_ret;exact⟨aC HV.o.symm,rfl⟩
     .have HN:Hid (rJ (fun c=>oC c||c==32) s (k+1)=true):=by show _=_;rw[vU _ hlt,HA.o,Hz.o];rfl
      go_wp2_with fail;go_roundg(s.size-(k+1));case measure=>omega
      case rel=>exact⟨k+1,oo,by congr 1,HN.o,rfl⟩
   .have h1:(s.size:Int)<=(k:Int):=oo;have HV:Hid (dK s=true):=by
     show _=_;rw[HV1.o,<-Eu];have:k=s.size:=oo;rw[<-this];exact HA.o
    go_wp2_with fail;go_ret;exact⟨aC HV.o.symm,rfl⟩
def XE(w:WD)(g:Nat)(x:Elem)(cv av:Av):Prop:=w.heap[g]?=some (.cells #[.int .i64 x.parent,.string x.tag,.string x.id,cv,av] 35 (0,0))
theorem XE.cs{w:WD}{g:Nat}{x:Elem}{cv av:Av}(h:XE w g x cv av):w.cell? ⟨g,0,none⟩=some (.int .i64 x.parent)/\w.cell? ⟨g,1,none⟩=some (.string x.tag)/\w.cell? ⟨g,2,none⟩=some (.string x.id)/\w.cell? ⟨g,3,none⟩=some cv/\w.cell? ⟨g,4,none⟩=some av:=by refine⟨?_,?_,?_,?_,?_⟩<;>(unfold World.cell?;rw[h];rfl)
theorem TK{α:Type}(f:α->Bool)(l:List α)(k:Nat)(h:k<l.length)(h1:(l.take k).all f=true)(h2:f l[k]=true):(l.take (k+1)).all f=true:=by rw[List.take_succ_eq_append_getElem h,List.all_append,h1];simp[h2]
theorem XC{α:Type}(f:α->Bool)(l:List α)(k:Nat)(h:k<l.length)(h2:f l[k]=false):l.all f=false:=by rw[List.all_eq_false];exact⟨l[k],List.getElem_mem _,by simp[h2]⟩
def TL(x:Elem):Bool:=uU x.tag&&nameP x.id&&decide (x.classes.length<=4)&&decide (x.attrs.length<=4)&&x.classes.all uU&&x.attrs.all (fun a=>uU a.1&&dK a.2)
theorem agX(a:BY×BY):aay a=(uU a.1&&dK a.2):=by unfold aay uU;cases nameP a.1<;>cases dK a.2<;>simp
theorem TM(i:Nat)(x:Elem):xC i x=(Wi i x&&TL x):=by have e:(fun a=>uU a.1&&dK a.2)=aay:=funext fun a=>(agX a).symm;rw[RJ];unfold acW TL uU;rw[show(fun a:BY×BY=>(nameP a.1&&!decide (a.1=aA))&&dK a.2)=aay from e];show _=(Wi i x&&(nameP x.tag&&!decide (x.tag=aA)&&nameP x.id&&decide (x.classes.length<=4)&&decide (x.attrs.length<=4)&&x.classes.all acV&&x.attrs.all aay));cases Wi i x<;>simp
theorem ad2(s:BY):nameP s=(decide (s=aA)||uU s):=by
 unfold uU;by_cases h:s=aA
 .subst h;rfl
 .simp[h]
theorem ad3(s:BY):(s.toList != ([]:List UInt8)) = !decide (s=aA):=by rw[bne,ay];rfl
theorem alJ(l:List UInt8)(h:¬l=[]):l.isEmpty=false:=by
 cases l with
 |nil=>exact absurd rfl h
 |cons a b=>rfl
theorem agY(s:BY)(h:s.toList=[]):nameP s=true:=by
 have e:=ad3 s;rw[h]at e;have e2:decide (s=aA)=true:=by
  cases hd:decide (s=aA)
  .rw[hd]at e;exact absurd e (by decide)
  .rfl
 rw[ad2,e2];rfl
theorem agZ(s:BY)(h:¬s.toList=[]):nameP s=uU s:=by have e2:decide (s=aA)=false:=decide_eq_false (by intro e;apply h;have h2:=ad3 s;rw[decide_eq_true e]at h2;simpa using h2);rw[ad2,e2];rfl
def XA(w:WD)(g:Nat)(s:BY×BY):Prop:=w.heap[g]?=some (.cells #[.string s.1,.string s.2] 96 (0,0))
theorem XA.cs{w:WD}{g:Nat}{s:BY×BY}(h:XA w g s):w.cell? ⟨g,0,none⟩=some (.string s.1)/\w.cell? ⟨g,1,none⟩=some (.string s.2):=by refine⟨?_,?_⟩<;>(unfold World.cell?;rw[h];rfl)
theorem ad4(B:Nat)(x:Elem)(cv av:Av)(w:WD)(hcl:SG eX 1 (fun b=>b<B) w cv x.classes)(hat:SG qH 2 (fun b=>b<B) w av x.attrs)(hts:x.tag.size<=4194304)(his:x.id.size<=4194304)(hB:B<=w.heap.size):
  Calls prog 90 #[.agg #[.int .i64 x.parent,.string x.tag,.string x.id,cv,av]] w fun e w'=>e=.returned (.bool (TL x))/\Below w.heap.size w w':=by
 obtain⟨ca,cc,rfl⟩:=hcl.form;obtain⟨aa,ac,rfl⟩:=hat.form;have alK:=hcl.len;have alL:=hat.len;have X1:Hid (XE (w.alloc (.cells #[.int .i64 x.parent,.string x.tag,.string x.id,.slice ca x.classes.length cc,.slice aa x.attrs.length ac] 35)) w.heap.size x (.slice ca x.classes.length cc) (.slice aa x.attrs.length ac)):=heap_alloc_new w _;have B1:Hid (Below w.heap.size w (w.alloc (.cells #[.int .i64 x.parent,.string x.tag,.string x.id,.slice ca x.classes.length cc,.slice aa x.attrs.length ac] 35))):=Ax.alloc nl _;have C1:=hid (hcl.below eX.fair B1.o hB)
 have A1:=hid (hat.below qH.fair B1.o hB);clear hcl hat;go_in;go_upto_region 1 with fail
 generalize w.alloc (.cells #[.int .i64 x.parent,.string x.tag,.string x.id,.slice ca x.classes.length cc,.slice aa x.attrs.length ac] 35)=w2 at *;obtain⟨gx,Hgx⟩:=Nm w.heap.size;have X2:Hid (XE w2 gx x (.slice ca x.classes.length cc) (.slice aa x.attrs.length ac)):=by rw[<-Hgx.o];exact X1
 rw[Hgx.o];clear X1;obtain⟨c0,c1,c2,c3,c4⟩:=X2.o.cs;have hs2:=B1.o.size;obtain⟨bt,Hbt⟩:=Nm (uU x.tag);obtain⟨bi,Hbi⟩:=Nm (uU x.id);go_cut [21] (fun s21 wx=>s21=.bool (!(uU x.tag&&nameP x.id))/\wx=w2);case first=>
  go_wp2_with fail;refine(DI x.tag _ As).mono ?_;rw[Hbt.o];rintro e wq ⟨rfl,hwq⟩;rw[hwq];clear hwq wq;cases bt
  .go_wp2_with fail;go_meet
   exact⟨by rw[Hbt.o];rfl,rfl⟩
  .go_wp2_with fail
   .have HV:Hid (nameP x.id=true):=agY x.id (by assumption);go_meet
    exact⟨by rw[Hbt.o,HV.o];rfl,rfl⟩
   .have HV:Hid (nameP x.id=bi):=by
     show _=_;rw[agZ x.id (by assumption)];exact Hbi.o
    have HE:Hid (x.id.toList.isEmpty=false):=alJ _ (by assumption);refine(DI x.id _ As).mono ?_;rw[Hbi.o];rintro e wq ⟨rfl,hwq⟩;rw[hwq];clear hwq wq;go_wp2_with fail;go_meet
    exact⟨by rw[Hbt.o,HV.o,HE.o];cases bi<;>rfl,rfl⟩
 case rest=>
 obtain⟨rfl,rfl⟩:=hcut;obtain⟨z,Hz⟩:=Nm ((uU x.tag&&nameP x.id));rw[Hz.o];clear Hbt Hbi;cases z
 .have HV:Hid (TL x=false):=by show _=_;unfold TL;rw[Hz.o];rfl
  go_wp2_with fail;go_ret;exact⟨aC HV.o.symm,B1.o⟩
 .by_cases h4:4<x.classes.length
  .have h4':(4:Int)<(x.classes.length:Int):=oo;have HV:Hid (TL x=false):=by show _=_;unfold TL;rw[decide_eq_false (show ¬x.classes.length<=4 by omega)];simp
   go_wp2_with fail;go_ret;exact⟨aC HV.o.symm,B1.o⟩
  .have h4':(x.classes.length:Int)<=4:=oo;by_cases h5:4<x.attrs.length
   .have h5':(4:Int)<(x.attrs.length:Int):=oo;have HV:Hid (TL x=false):=by show _=_;unfold TL;rw[decide_eq_false (show ¬x.attrs.length<=4 by omega)];simp
    go_wp2_with fail;go_ret;exact⟨aC HV.o.symm,B1.o⟩
   .have h5':(x.attrs.length:Int)<=4:=oo;have Lm:Hid (TL x=(x.classes.all uU&&x.attrs.all (fun a=>uU a.1&&dK a.2))):=by
     show _=_;unfold TL;rw[Hz.o,decide_eq_true (show x.classes.length<=4 by omega),decide_eq_true (show x.attrs.length<=4 by omega)];rfl
    have hxl:gx<wc.heap.size:=(Array.getElem?_eq_some_iff.1 (show wc.heap[gx]?=_ from X2.o)).1;go_wp2_with fail;go_loopg[35] x.classes.length (fun g v wr=>∃k:Nat,k+g=x.classes.length/\v=.int .i64 (k:Int)/\Aside ((x.classes.take k).all uU=true/\wr=wc));case atStart=>exact⟨0,oo,rfl,rfl,rfl⟩
    case round=>
     obtain⟨k,hk,rfl,hA⟩:=hrel;have HA:=hid hA.o.1;obtain rfl:=hA.o.2;clear hA;by_cases hlt:k<x.classes.length
     .have h1:(k:Int)<(x.classes.length:Int):=oo;obtain⟨g,o,rfl,hL,hcap⟩:=C1.o.here (by intro e;rw[e]at hlt;simp at hlt);obtain⟨hgs,d0,hsz⟩:=hL.str (i:=k) hlt;obtain⟨s,Hs⟩:=Nm (x.classes[k]);rw[Hs.o]at d0 hsz;clear hL;obtain⟨y,Hy⟩:=Nm (uU s);go_wp2_with fail;refine(DI s _ As).mono ?_;rw[Hy.o];rintro e wq ⟨rfl,hwq⟩;rw[hwq];clear hwq wq;cases y
      .have HV:Hid (TL x=false):=by show _=_;rw[Lm.o,XC uU x.classes k hlt (by rw[Hs.o];exact Hy.o)];rfl
       go_wp2_with fail;go_ret;exact⟨aC HV.o.symm,B1.o⟩
      .have HN:Hid ((x.classes.take (k+1)).all uU=true):=TK uU x.classes k hlt HA.o (by rw[Hs.o];exact Hy.o);go_wp2_with fail;go_roundg(x.classes.length-(k+1));case measure=>omega
       case rel=>exact⟨k+1,oo,by congr 1,HN.o,rfl⟩
     .have h1:(x.classes.length:Int)<=(k:Int):=oo;have HV1:Hid (TL x=x.attrs.all (fun a=>uU a.1&&dK a.2)):=by
       show _=_;have:(x.classes.take k).all uU=x.classes.all uU:=by rw[List.take_of_length_le oo]
       rw[Lm.o,<-this,HA.o];rfl
      go_wp2_with fail;clear c0 c1 c2 c3 c4 X2 HA Lm C1 h4 h4' h1 hlt;obtain⟨wc,hwc⟩:∃q,q=wr:=⟨_,rfl⟩;subst hwc;go_loopg[46] x.attrs.length (fun g v wr=>∃k:Nat,k+g=x.attrs.length/\v=.int .i64 (k:Int)/\Aside ((x.attrs.take k).all (fun a=>uU a.1&&dK a.2)=true/\Below w.heap.size wc wr));case atStart=>exact⟨0,oo,rfl,rfl,Ax⟩
      case round=>
       obtain⟨m,hm,rfl,hA⟩:=hrel;have HA:=hid hA.o.1;have BR:=hid hA.o.2;clear hA;have BW:=hid (B1.o.trans (BR.o));have A2:=hid (A1.o.below qH.fair BR.o hB);by_cases hlt:m<x.attrs.length
       .have h1:(m:Int)<(x.attrs.length:Int):=oo;obtain⟨g,o,rfl,hL,hcap⟩:=A2.o.here (by intro e;rw[e]at hlt;simp at hlt);obtain⟨hgs,d0,d1,hsz,hsz1⟩:=hL.att (i:=m) hlt;obtain⟨s,Hs⟩:=Nm (x.attrs[m]);rw[Hs.o]at d0 d1 hsz hsz1;clear hL;have N2:Hid (XA (wr.alloc (.cells #[.string s.1,.string s.2] 96)) wr.heap.size s):=heap_alloc_new wr _;have BN:Hid (Below w.heap.size wc (wr.alloc (.cells #[.string s.1,.string s.2] 96))):=BR.o.alloc BW.o.size _;have BV:Hid (Below w.heap.size w (wr.alloc (.cells #[.string s.1,.string s.2] 96))):=BW.o.alloc BW.o.size _;obtain⟨y1,Hy1⟩:=Nm (uU s.1);obtain⟨y2,Hy2⟩:=Nm (dK s.2);go_upto_region 14 with fail
        generalize wr.alloc (.cells #[.string s.1,.string s.2] 96)=w3 at *;obtain⟨gy,Hgy⟩:=Nm wr.heap.size;rw[Hgy.o]at N2;rw[Hgy.o];obtain⟨n0,n1⟩:=N2.o.cs;clear d0 d1;go_wp2_with fail;refine(DI s.1 _ As).mono ?_;rw[Hy1.o];rintro e wq ⟨rfl,hwq⟩;rw[hwq];clear hwq wq;cases y1
        .have HV:Hid (TL x=false):=by show _=_;rw[HV1.o];exact XC _ x.attrs m hlt (by rw[Hs.o,Hy1.o];rfl)
         go_wp2_with fail;go_ret;exact⟨aC HV.o.symm,BV.o⟩
        .go_wp2_with fail;refine(L6 s.2 _ As).mono ?_;rw[Hy2.o];rintro e wq ⟨rfl,hwq⟩;rw[hwq];clear hwq wq;cases y2
         .have HV:Hid (TL x=false):=by show _=_;rw[HV1.o];exact XC _ x.attrs m hlt (by rw[Hs.o,Hy1.o,Hy2.o];rfl)
          go_wp2_with fail;go_ret;exact⟨aC HV.o.symm,BV.o⟩
         .have HN:Hid ((x.attrs.take (m+1)).all (fun a=>uU a.1&&dK a.2)=true):=TK _ x.attrs m hlt HA.o (by rw[Hs.o,Hy1.o,Hy2.o];rfl);go_wp2_with fail;go_roundg(x.attrs.length-(m+1));case measure=>omega
          case rel=>exact⟨m+1,oo,by congr 1,HN.o,BN.o⟩
       .have h1:(x.attrs.length:Int)<=(m:Int):=oo;have HV:Hid (TL x=true):=by
         show _=_;have:(x.attrs.take m).all (fun a=>uU a.1&&dK a.2)=x.attrs.all (fun a=>uU a.1&&dK a.2):=by rw[List.take_of_length_le oo]
         rw[HV1.o,<-this,HA.o]
        go_wp2_with fail;go_ret;exact⟨aC HV.o.symm,BW.o⟩
theorem ad5(B:Nat)(p:aI)(v:Av)(w:WD)(h:SG wO 5 (fun b=>b<B) w v p)(hB:B<=w.heap.size):
  Calls prog 58 #[v] w fun e w'=>e=.returned (.bool (iL p))/\Below w.heap.size w w':=by
 have hl:=h.len;have HS:=hid h;obtain⟨a,cap,rfl⟩:=h.form;clear h;by_cases hl1:p.length<1
 .have h1:(p.length:Int)<1:=oo;have HV:Hid (iL p=false):=by show _=_;unfold iL;rw[decide_eq_false oo];rfl
  go_in;go_wp2_with fail;go_ret;exact⟨aC HV.o.symm,Ax⟩
 .have h1:(1:Int)<=(p.length:Int):=oo;by_cases amY:30<p.length
  .have h2:(30:Int)<(p.length:Int):=oo;have HV:Hid (iL p=false):=by show _=_;unfold iL;rw[decide_eq_false (p:=p.length<=30) oo];simp
   go_in;go_wp2_with fail;go_ret;exact⟨aC HV.o.symm,Ax⟩
  .have h2:(p.length:Int)<=30:=oo;have HP:Hid (iL p=gI 0 p):=by show _=_;unfold iL;rw[decide_eq_true oo,decide_eq_true oo];rfl
   clear hl1 amY;go_in;go_wp2_with fail;go_loopg[15] p.length (fun g v3 wr=>∃i:Nat,i+g=p.length/\v3=.int .i64 (i:Int)/\Aside (gI 0 p=gI i (p.drop i)/\Below w.heap.size w wr));case atStart=>exact⟨0,oo,rfl,rfl,Ax⟩
   case round=>
    obtain⟨go,hgo⟩:∃go,go=gk:=⟨_,rfl⟩;obtain⟨i,hi,rfl,hA⟩:=hrel;have HE:=hid hA.o.1;have HB:=hid hA.o.2;clear hA;by_cases hlt:i<p.length
    .have h3:(i:Int)<(p.length:Int):=oo;have hsz:=HB.o.size;have hS:=HS.o.below wO.fair HB.o hB;obtain⟨g,o,rfl,hL,hcap⟩:=hS.here (by rintro rfl;simp at hlt);obtain⟨cv,av,hX⟩:=hL.el (i:=i) hlt;obtain⟨x,hx⟩:∃x,x=p[i]:=⟨_,rfl⟩;have HE2:Hid (iL p=(xC i x&&gI (i+1) (p.drop (i+1)))):=by show _=_;rw[HP.o,HE.o,RN p i i hlt,hx]
     rw[<-hx]at hX;obtain⟨ca,cc,rfl⟩:=hX.cl.form;obtain⟨aa,ac,rfl⟩:=hX.at_.form;obtain⟨c0,c1,c2,c3,c4⟩:_/\_/\_/\_/\_:=⟨hX.c0,hX.c1,hX.c2,hX.c3,hX.c4⟩;have alK:=hX.cl.len;have alL:=hX.at_.len;have hts:=hX.tag;have his:=hX.id;have X2:Hid (XE (wr.alloc (.cells #[.int .i64 x.parent,.string x.tag,.string x.id,.slice ca x.classes.length cc,.slice aa x.attrs.length ac] 35)) wr.heap.size x (.slice ca x.classes.length cc) (.slice aa x.attrs.length ac)):=heap_alloc_new wr _;have B2:Hid (Below w.heap.size w (wr.alloc (.cells #[.int .i64 x.parent,.string x.tag,.string x.id,.slice ca x.classes.length cc,.slice aa x.attrs.length ac] 35))):=HB.o.alloc hsz _
     have C2:Hid (SG eX 1 (fun b=>b<B) (wr.alloc (.cells #[.int .i64 x.parent,.string x.tag,.string x.id,.slice ca x.classes.length cc,.slice aa x.attrs.length ac] 35)) (.slice ca x.classes.length cc) x.classes):=hX.cl.keep eX.fair (fun _ hg=>hg) fun q hq=>Below.heap_alloc _ _ _ oo;have A2:Hid (SG qH 2 (fun b=>b<B) (wr.alloc (.cells #[.int .i64 x.parent,.string x.tag,.string x.id,.slice ca x.classes.length cc,.slice aa x.attrs.length ac] 35)) (.slice aa x.attrs.length ac) x.attrs):=hX.at_.keep qH.fair (fun _ hg=>hg) fun q hq=>Below.heap_alloc _ _ _ oo;clear hS hL hX hx;go_upto_region 6 with fail
     generalize wr.alloc (.cells #[.int .i64 x.parent,.string x.tag,.string x.id,.slice ca x.classes.length cc,.slice aa x.attrs.length ac] 35)=w2 at *;generalize wr.heap.size=xb at *;clear c0 c1 c2 c3 c4 HE;obtain⟨c0,c1,c2,c3,c4⟩:=X2.o.cs;have hsz2:=B2.o.size;obtain⟨bp,Hbp⟩:=Nm (Xz x.parent i);obtain⟨be,Hbe⟩:=Nm (TL x);have Pv:Hid (iL p=(bp&&be&&gI (i+1) (p.drop (i+1)))):=by show _=_;rw[HE2.o,TM,show Wi i x=bp from Hbp.o,Hbe.o]
     go_wp2_with fail;refine(XB x.parent i _).mono ?_;rw[Hbp.o];rintro e wq ⟨rfl,hwq⟩;rw[hwq];clear hwq wq;cases bp
     .have HV:Hid (iL p=false):=Pv.o;go_wp2_with fail;go_ret;exact⟨aC HV.o.symm,B2.o⟩
     .go_wp2_with fail;refine(ad4 B x _ _ _ C2.o A2.o hts his oo).mono ?_;rw[Hbe.o];rintro e wq ⟨rfl,hwq⟩;have B3:=hid (B2.o.trans (hwq.mono hsz2));clear hwq c0 c1 c2 c3 c4 X2;cases be
      .have HV:Hid (iL p=false):=Pv.o;go_wp2_with fail;go_ret;exact⟨aC HV.o.symm,B3.o⟩
      .have HT:Hid (gI 0 p=gI (i+1) (p.drop (i+1))):=by
        show _=_;rw[<-HP.o,Pv.o];rfl
       go_wp2_with fail;go_roundg(go-1);case measure=>omega
       case rel=>exact⟨i+1,oo,by congr 1,HT.o,B3.o⟩
    .have h3:(p.length:Int)<=(i:Int):=oo;have HV:Hid (iL p=true):=by
      show _=_;rw[HP.o,HE.o,List.drop_of_length_le oo];rfl
     go_wp2_with fail;go_ret;exact⟨aC HV.o.symm,HB.o⟩
theorem ag0(s k:Nat)(hs:s<18446744073709551616):(bits .and .u64 ((s:Int)/2 ^ k) 1==1)=s.testBit k:=by
 have h1:(s:Int)/2 ^ k=((s/2 ^ k:Nat):Int):=by simp
 have h2:s/2 ^ k<18446744073709551616:=Nat.lt_of_le_of_lt (Nat.div_le_self _ _) hs;have h3:=bits_and_u64_nat (s/2 ^ k) 1 h2 Al;rw[h1];rw[show((1:Nat):Int)=1 from rfl]at h3;rw[h3,Nat.and_one_is_mod,Nat.testBit_eq_decide_div_mod_eq];by_cases h:s/2 ^ k%2=1
 .rw[h];rfl
 .have h4:s/2 ^ k%2=0:=oo;rw[h4];rfl
def hasB(s:Nat)(e:Int):Bool:=decide (0<=e)&&s.testBit e.toNat
theorem ajM(n:Nat)(a:Option Addr)(cap:Nat)(e:Int)(w:WD):
  Calls prog 33 #[.agg #[.slice a n cap],.int .i64 e] w fun ex w'=>ex=.returned (.bool (decide (0<=e)&&decide (e<n)))/\Below w.heap.size w w':=by
 have B1:Hid (Below w.heap.size w (w.alloc (.cells #[.slice a n cap] 66))):=Ax.alloc nl _;go_in;by_cases h0:0<=e
 .have HV:Hid ((decide (0<=e)&&decide (e<(n:Int)))=decide (e<(n:Int))):=by show _=_;rw[decide_eq_true h0];rfl
  go_wp2_with fail;go_ret;exact⟨aC HV.o.symm,B1.o⟩
 .have h1:e<0:=oo;have HV:Hid ((decide (0<=e)&&decide (e<(n:Int)))=false):=by show _=_;rw[decide_eq_false h0];rfl
  clear h0;go_wp2_with fail;go_ret;exact⟨aC HV.o.symm,B1.o⟩
theorem EN(s:Nat)(e:Int)(w:WD)(hs:s<18446744073709551616)(he:e<64):
  Calls prog 47 #[.int .u64 (s:Int),.int .i64 e] w fun ex w'=>ex=.returned (.bool (hasB s e))/\w'=w:=by
 go_in;by_cases h0:0<=e
 .have HV:Hid (hasB s e=(bits .and .u64 ((s:Int)/2 ^ e.toNat) 1==1)):=by show _=_;rw[ag0 s _ hs];unfold hasB;rw[decide_eq_true h0];rfl
  go_wp2_with fail;go_ret;exact⟨aC HV.o.symm,rfl⟩
 .have h1:e<0:=oo;have HV:Hid (hasB s e=false):=by show _=_;unfold hasB;rw[decide_eq_false h0];rfl
  clear h0;go_wp2_with fail;go_ret;exact⟨aC HV.o.symm,rfl⟩
theorem amZ(B:Nat)(p:aI)(v:Av)(w:WD)(h:SG wO 5 (fun b=>b<B) w v p)(hB:B<=w.heap.size):
  Calls prog 32 #[v] w fun e w'=>(∃pv,e=.returned (.tuple #[pv,.bool (iL p)])/\(iL p=true->pv=.agg #[v]))/\Below w.heap.size w w':=by
 have B1:Hid (Below w.heap.size w (w.alloc (.cells #[.slice none 0 0] 66))):=Ax.alloc nl _;have HS:=hid (h.below wO.fair B1.o hB);have hsz:=B1.o.size;have N0:Hid ((w.alloc (.cells #[.slice none 0 0] 66)).heap[w.heap.size]?=some (.cells #[.slice none 0 0] 66 (0,0))):=heap_alloc_new w _;obtain⟨a,cap,rfl⟩:=h.form;clear h;obtain⟨b,Hb⟩:=Nm (iL p);go_in;go_wp2_with fail;generalize w.alloc (.cells #[.slice none 0 0] 66)=w2 at *;refine(ad5 B p _ _ HS.o oo).mono ?_;rw[Hb.o];rintro e wq ⟨rfl,hwq⟩;have B2:=hid (B1.o.trans (hwq.mono hsz));have N1:Hid (wq.heap[w.heap.size]?=some (.cells #[.slice none 0 0] 66 (0,0))):=by show _=_;rw[hwq.block _ (Ay N0.o)];exact N0.o
 have c0:wq.cell? ⟨w.heap.size,0,none⟩=some (.slice none 0 0):=by unfold World.cell?;rw[N1.o];rfl
 have f0:wq.frozen? ⟨w.heap.size,0,none⟩=false:=by unfold World.frozen?;rw[N1.o];simp
 clear hwq N0 N1 HS;cases b
 .have c1:(wq.setCell ⟨w.heap.size,0,none⟩ (.slice none 0 0)).cell? ⟨w.heap.size,0,none⟩=some (.slice none 0 0):=World.cell?_setCell_same _ _ _ c0;have B3:Hid (Below w.heap.size w (wq.setCell ⟨w.heap.size,0,none⟩ (.slice none 0 0))):=B2.o.setCell nl _;go_wp2_with fail;generalize wq.setCell ⟨w.heap.size,0,none⟩ (.slice none 0 0)=w9 at *;refine bodyPost_ret (v:=.tuple #[.agg #[.slice none 0 0],.bool false]) (by simp[results,Tryz.results32,go_sem,c1]) rfl ?_;exact⟨⟨_,by rw[Hb.o],by rw[Hb.o];intro h;cases h⟩,B3.o⟩
 .have c1:(wq.setCell ⟨w.heap.size,0,none⟩ (.slice a p.length cap)).cell? ⟨w.heap.size,0,none⟩=some (.slice a p.length cap):=World.cell?_setCell_same _ _ _ c0;have B3:Hid (Below w.heap.size w (wq.setCell ⟨w.heap.size,0,none⟩ (.slice a p.length cap))):=B2.o.setCell nl _;go_wp2_with fail;generalize wq.setCell ⟨w.heap.size,0,none⟩ (.slice a p.length cap)=w9 at *;refine bodyPost_ret (v:=.tuple #[.agg #[.slice a p.length cap],.bool true]) (by simp[results,Tryz.results32,go_sem,c1]) rfl ?_;exact⟨⟨_,by rw[Hb.o],fun _=>rfl⟩,B3.o⟩
def Gg(a s:Nat):Nat:=(BitVec.ofNat 64 a &&& ~~~BitVec.ofNat 64 s).toNat
theorem GI(a s:Nat):Gg a s<18446744073709551616:=(BitVec.ofNat 64 a &&& ~~~BitVec.ofNat 64 s).isLt
theorem TN(a s:Nat):bits .andNot .u64 (a:Int) (s:Int)=(Gg a s:Int):=by have h:=GI a s;show IntKind.u64.wrap ((BitVec.ofInt 64 (a:Int) &&& ~~~BitVec.ofInt 64 (s:Int)).toNat:Int)=_;rw[BitVec.ofInt_natCast,BitVec.ofInt_natCast,IntKind.wrap_u64];show((Gg a s:Nat):Int)%_=_;omega
theorem wB(n:Nat)(hn:n<=30):2 ^ n<=1073741824:=show 2 ^ n<=2 ^ 30 from Nat.pow_le_pow_right Al hn
theorem ad6(n:Nat)(hn:n<=30):IntKind.u64.wrap (IntKind.u64.wrap (2 ^ n)-1)=((2 ^ n-1:Nat):Int):=by
 have h:=wB n hn;have h1:1<=2 ^ n:=Nat.one_le_two_pow;have e:(2:Int) ^ n=((2 ^ n:Nat):Int):=by simp
 rw[e];generalize(2 ^ n:Nat)=m at *;rw[IntKind.wrap_u64,IntKind.wrap_u64];omega
theorem ajN(v:Av)(w:WD):Calls prog 359 #[.agg #[v]] w fun ex w'=>ex=.returned (.int .u64 1)/\Below w.heap.size w w':=by have B1:Hid (Below w.heap.size w (w.alloc (.cells #[v] 66))):=Ax.alloc nl _;go_in;go_wp2_with fail;go_ret;exact⟨rfl,B1.o⟩
theorem TP(n:Nat)(a:Option Addr)(cap:Nat)(w:WD)(hn:n<=30):
  Calls prog 203 #[.agg #[.slice a n cap]] w fun ex w'=>ex=.returned (.int .u64 ((2 ^ n-1:Nat):Int))/\Below w.heap.size w w':=by
 have B1:Hid (Below w.heap.size w (w.alloc (.cells #[.slice a n cap] 66))):=Ax.alloc nl _;have hi:(n:Int)<=30:=oo;have HV:Hid (IntKind.u64.wrap (IntKind.u64.wrap (2 ^ n)-1)=((2 ^ n-1:Nat):Int)):=ad6 n hn;go_in;go_wp2_with fail;go_ret;exact⟨by rw[HV.o];rfl,B1.o⟩
theorem aa6(n:Nat)(a:Option Addr)(cap:Nat)(s:Nat)(w:WD)(hn:n<=30):
  Calls prog 368 #[.agg #[.slice a n cap],.int .u64 (s:Int)] w fun ex w'=>ex=.returned (.int .u64 (Gg (2 ^ n-1) s:Int))/\Below w.heap.size w w':=by
 have B1:Hid (Below w.heap.size w (w.alloc (.cells #[.slice a n cap] 66))):=Ax.alloc nl _;have HV:Hid (bits .andNot .u64 ((2 ^ n-1:Nat):Int) (s:Int)=(Gg (2 ^ n-1) s:Int)):=TN _ _;have hsz:=B1.o.size;go_in;go_wp2_with fail;refine pmb (TP n a cap _ hn) fun wq hwq=>?_;have B2:=hid (B1.o.trans (hwq.mono hsz));go_wp2_with fail;go_ret;exact⟨by rw[HV.o];rfl,B2.o⟩
def jq(t:Nat->Bool):Nat->Nat
 |0=>0
 |k+1=>if t k then jq t k ||| 2 ^ k else jq t k
theorem yC(t:Nat->Bool)(k e:Nat):(jq t k).testBit e=(decide (e<k)&&t e):=by
 induction k with
 |zero=>simp[jq]
 |succ k ih=>
  unfold jq;by_cases he:e=k
  .subst he;cases h:t e
   .simp[ih,h]
   .simp[ih,h,Nat.testBit_or]
  .have h2:decide (e<k+1)=decide (e<k):=by by_cases h:e<k<;>simp[h]<;>omega
   rw[h2];cases h:t k
   .simp[ih]
   .have:¬k=e:=fun h=>he h.symm;simp[ih,Nat.testBit_or,this]
theorem ag1(t:Nat->Bool)(k:Nat):jq t k<2 ^ k:=by
 apply Nat.lt_pow_two_of_testBit
 intro i hi;rw[yC];simp;omega
theorem uJ(t:Nat->Bool)(k:Nat)(hk:k<=30):jq t k<18446744073709551616:=by have:=ag1 t k;have:=wB k hk;omega
theorem Px(k:Nat)(hk:k<=30):IntKind.u64.wrap (2 ^ k)=((2 ^ k:Nat):Int):=by
 have h:=wB k hk;have e:(2:Int) ^ k=((2 ^ k:Nat):Int):=by simp
 rw[e];generalize(2 ^ k:Nat)=m at *;rw[IntKind.wrap_u64];omega
theorem ag2(t:Nat->Bool)(k:Nat)(hk:k<30)(h:t k=true):bits .or .u64 (jq t k:Int) (IntKind.u64.wrap (2 ^ k))=(jq t (k+1):Int):=by
 have h1:=uJ t k oo;have h2:=wB k oo;rw[Px k oo,bits_or_u64_nat _ _ h1 oo];conv=>rhs;unfold jq
 rw[if_pos h]
theorem rZ(n:Nat)(a:Option Addr)(cap:Nat)(g:Nat)(cs:Array Av)(t:Nat->Bool)(w:WD)(hn:n<=30)
  (hg:∀(args:Array Av) (w:WD),(callFunc g args).run prog w=.ok (.enter g args) w)
  (hf:∀i,i<n->∀w',Below w.heap.size w w'->Calls prog g (#[.int .i64 (i:Int)]++cs) w' fun ex w''=>ex=.returned (.bool (t i))/\Below w'.heap.size w' w''):
  Calls prog 259 #[.agg #[.slice a n cap],.func (.func g) #[] cs] w fun ex w'=>ex=.returned (.int .u64 (jq t n:Int))/\Below w.heap.size w w':=by
 have B1:Hid (Below w.heap.size w (w.alloc (.cells #[.slice a n cap] 66))):=Ax.alloc nl _;have hi:(n:Int)<=30:=oo;have HF:=hid hf;clear hf;go_in;go_wp2_with fail;generalize w.alloc (.cells #[.slice a n cap] 66)=w2 at *;go_loopg[5,10] n (fun g v5 v wr=>∃k:Nat,k+g=n/\v=.int .i64 (k:Int)/\v5=.int .u64 (jq t k:Int)/\Aside (Below w.heap.size w wr));case atStart=>exact⟨0,oo,rfl,rfl,B1.o⟩
 case round=>
  obtain⟨k,hk,rfl,rfl,hA⟩:=hrel;have HB:Hid (Below w.heap.size w wr):=hA.o;clear hA;have hsz:=HB.o.size;by_cases hlt:k<n
  .have h1:(k:Int)<(n:Int):=oo;have hc:=HF.o k hlt wr HB.o;go_wp2_with fail;refine hc.mono ?_;rintro e wq ⟨rfl,hwq⟩;have BQ:=hid (HB.o.trans (hwq.mono hsz));clear hwq hc;cases ht:t k
   .have HV:Hid (jq t k=jq t (k+1)):=by
     show _=_;(conv=>rhs;unfold jq);rw[ht];rfl
    go_wp2_with fail;go_roundg(n-(k+1));case measure=>omega
    case rel=>exact⟨k+1,oo,by congr 1,by rw[HV.o],BQ.o⟩
   .have h30:(k:Int)<30:=oo;have HV:Hid (bits .or .u64 (jq t k:Int) (IntKind.u64.wrap (2 ^ k))=(jq t (k+1):Int)):=ag2 t k oo ht;go_wp2_with fail;go_roundg(n-(k+1));case measure=>omega
    case rel=>exact⟨k+1,oo,by congr 1,by rw[HV.o],BQ.o⟩
  .have h1:(n:Int)<=(k:Int):=oo;have HV:Hid (jq t k=jq t n):=by show _=_;rw[show k=n by omega]
   go_wp2_with fail;go_ret;exact⟨by rw[HV.o];rfl,HB.o⟩
