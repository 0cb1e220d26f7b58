import Derived.Test.YtlliliddljkbfaaGreatDoorC1
import Derived.Handy
import Derived.OrdersHeld
import Derived.Deep.RegionHeld
import Derived.Deep.QuietTactic
import Derived.Deep.LoopGhost
import Derived.BigQuiet
import Derived.ScopeJumps
import Derived.WalkMore
namespace Go.Proofs.YtlliliddljkbfaaGreatDoor
set_option maxHeartbeats 64000000
set_option maxRecDepth 100000
open Go.Proofs.Tryz (prog)
open Go.RowKit Sp
section
structure Turn(b:Nat)(w w':World):Prop where
 os:w'.os=w.os
 tape:w'.tape=w.tape
 output:w'.output=w.output
 size:w.heap.size<=w'.heap.size
 block:∀k,k<w.heap.size->k≠b->w'.heap[k]?=w.heap[k]?
theorem Turn.refl(b:Nat)(w:World):Turn b w w:=⟨rfl,rfl,rfl,Nat.le_refl _,fun _ _ _=>rfl⟩
theorem Turn.trans{b:Nat}{x y z:World}(h:Turn b x y)(k:Turn b y z):Turn b x z:=⟨k.os.trans h.os,k.tape.trans h.tape,k.output.trans h.output,Nat.le_trans h.size k.size,fun i hi hb=>(k.block i (Nat.lt_of_lt_of_le hi h.size) hb).trans (h.block i hi hb)⟩
theorem Turn.drewN{b:Nat}{x y:World}(h:Turn b x y)(n:Nat):Turn b x (y.drewN n):=⟨h.os,h.tape,h.output,h.size,h.block⟩
theorem Turn.drew{b:Nat}{x y:World}(h:Turn b x y):Turn b x y.drew:=⟨h.os,h.tape,h.output,h.size,h.block⟩
theorem Turn.alloc{b:Nat}{x y:World}(h:Turn b x y)(o:Obj):Turn b x (y.alloc o):=h.trans ⟨rfl,rfl,rfl,by simp,fun k hk _=>Below.heap_alloc _ _ _ hk⟩
theorem Turn.setCell{b:Nat}{x y:World}(h:Turn b x y)(o:Nat)(v:Value):Turn b x (y.setCell ⟨b,o,none⟩ v):=h.trans ⟨rfl,rfl,rfl,by simp[World.setCell],fun k _ hb=>Below.heap_setCell _ _ _ _ hb⟩
theorem Turn.below{b B:Nat}{x y:World}(h:Turn b x y)(hB:B<=b)(hx:B<=x.heap.size):Below B x y:=⟨h.os,h.tape,h.output,h.size,fun k hk=>h.block k (by omega) (by omega)⟩
theorem Turn.of_below{b:Nat}{x y:World}(h:Below x.heap.size x y):Turn b x y:=⟨h.os,h.tape,h.output,h.size,fun k hk _=>h.block k hk⟩
theorem Turn.cell{b:Nat}{x y:World}(h:Turn b x y){p:Addr}(hp:p.block<x.heap.size)(hb:p.block≠b):y.cell? p=x.cell? p:=World.cell?_of_block (w:=x) (h.block p.block hp hb)
theorem Turn.frozen{b:Nat}{x y:World}(h:Turn b x y){p:Addr}(hp:p.block<x.heap.size)(hb:p.block≠b):y.frozen? p=x.frozen? p:=World.frozen?_of_block (w:=x) (h.block p.block hp hb)
structure Sc(w:World)(b:Nat)(s:ByteArray)(i:Nat):Prop where
 blk:w.heap[b]?=some (.cells #[.string s,.int .i64 (i:Int)] 170 (0,0))
 glob:∃m,w.cell? ⟨0,0,none⟩=some (.int .i64 m)
 pos:0<b
 len:s.size<=600
 le:i<=s.size
section
variable {w:World} {b:Nat} {s:ByteArray} {i:Nat}
theorem Sc.lt(h:Sc w b s i):b<w.heap.size:=by
 by_cases h1:b<w.heap.size
 .exact h1
 .have:=h.blk;rw[Array.getElem?_eq_none (by omega)]at this;cases this
theorem Sc.c0(h:Sc w b s i):w.cell? ⟨b,0,none⟩=some (.string s):=by unfold World.cell?;rw[h.blk];rfl
theorem Sc.c1(h:Sc w b s i):w.cell? ⟨b,1,none⟩=some (.int .i64 (i:Int)):=by unfold World.cell?;rw[h.blk];rfl
theorem Sc.f1(h:Sc w b s i):w.frozen? ⟨b,1,none⟩=false:=by unfold World.frozen?;rw[h.blk];rfl
theorem Sc.drewN(h:Sc w b s i)(n:Nat):Sc (w.drewN n) b s i:=⟨h.blk,h.glob,h.pos,h.len,h.le⟩
theorem Sc.drew(h:Sc w b s i):Sc w.drew b s i:=⟨h.blk,h.glob,h.pos,h.len,h.le⟩
theorem Sc.set(h:Sc w b s i)(j:Nat)(hj:j<=s.size):Sc (w.setCell ⟨b,1,none⟩ (.int .i64 (j:Int))) b s j:=by
 refine⟨?_,?_,h.pos,h.len,hj⟩
 .simp only[World.setCell,Array.getElem?_modify,h.blk];simp
 .obtain⟨m,hm⟩:=h.glob;exact⟨m,by rw[<-hm];exact World.cell?_of_block (w:=w) (Below.heap_setCell _ _ _ _ (by have:=h.pos;show(0:Nat)≠b;omega))⟩
theorem Sc.alloc(h:Sc w b s i)(o:Obj):Sc (w.alloc o) b s i:=by
 have hl:=h.lt;refine⟨?_,?_,h.pos,h.len,h.le⟩
 .rw[Below.heap_alloc _ _ _ hl];exact h.blk
 .obtain⟨m,hm⟩:=h.glob;exact⟨m,by rw[<-hm];exact World.cell?_of_block (w:=w) (Below.heap_alloc _ _ _ (by show 0<w.heap.size;have:=h.pos;omega))⟩
theorem Sc.kept(h:Sc w b s i){w':World}{c:Nat}(ht:Turn c w w')(hc:b≠c)(h0:0<c):Sc w' b s i:=by
 have hl:=h.lt;have hp:=h.pos;refine⟨?_,?_,h.pos,h.len,h.le⟩
 .rw[ht.block b hl hc];exact h.blk
 .obtain⟨m,hm⟩:=h.glob;exact⟨m,by rw[<-hm];exact ht.cell (by show 0<w.heap.size;omega) (by show(0:Nat)≠c;omega)⟩
end
theorem aV(s:ByteArray)(i:Nat)(h:i<s.size)(w:World):(Instr.index 9 (.string s) (.int .i64 (i:Int))).run prog w=.ok (.int .u8 (pk s i)) w:=by rw[run_index_string w 9 s .i64 i Tryz.underlying9,dif_pos ⟨by omega,by omega⟩,Iy h];simp
theorem Rf(s:ByteArray)(i:Nat):IntKind.i64.wrap (pk s i)=pk s i:=by have:=QL s i;have:=D7 s i;rw[IntKind.wrap_i64];omega
theorem ak(s:ByteArray)(b i:Nat)(a:Int)(k:Nat)(w:World)(h:Sc w b s i)(ha:0<=a/\a<=10/\(i:Int)+a=k):
  Calls prog 95 #[.pointer (some ⟨b,0,none⟩),.int .i64 a] w fun e w'=>e=.returned (.int .i64 (pk s k))/\∃n,w'=w.drewN n:=by
 have h0:=h.c0;have h1:=h.c1;have hs:=h.len;have hi:=h.le;clear h;obtain⟨n,rfl⟩:=Int.eq_ofNat_of_zero_le ha.1;obtain rfl:k=i+n:=by omega
 have ha':n<=10:=by omega
 clear ha;by_cases hlt:i+n<s.size
 .have hix:=aV s (i+n) hlt;have hw1:IntKind.i64.wrap ((i:Int)+(n:Int))=((i+n:Nat):Int):=by rw[IntKind.wrap_i64];omega
  have hw2:=Rf s (i+n);simp only[Int.natCast_add]at hix hw1;go_in;go_wp2
  go_quiet (fail)
  go_wp2
  go_quiet (fail)
  go_wp2
  go_ret;exact⟨rfl,_,World.drewN_drewN _ _ _⟩
 .rw[mO (by omega)];go_in;go_wp2
  go_quiet (fail)
  go_wp2
  go_ret;exact⟨rfl,_,rfl⟩
theorem fJ(s:ByteArray)(b i:Nat)(a:Int)(k:Nat)(w:World)(h:Sc w b s i)(ha:0<=a/\a<=9/\(i:Int)+a=k):
  Calls prog 230 #[.pointer (some ⟨b,0,none⟩),.int .i64 a] w fun e w'=>e=.returned (.bool (jq s k))/\∃n,w'=w.drewN n:=by
 have g0:=ha.1;have g1:=ha.2.1;have HA:Hid ((i:Int)+a=k):=ha.2.2;clear ha;cases wM:(pk s k==92)
 .have HV:Hid (jq s k=false):=by show jq s k=false;simp[jq,wM]
  go_in;go_wp2_with fail;refine(ak s b i _ k _ h ⟨by omega,by omega,by have:=HA.out;omega⟩).mono ?_;rintro e w1 ⟨rfl,n1,rfl⟩;go_wp2_with fail;go_ret;exact⟨aI HV.out.symm,_,rfl⟩
 .have HV:Hid (jq s k=(pk s (k+1) != 10)):=by show jq s k=_;simp[jq,wM]
  go_in;go_wp2_with fail;refine(ak s b i _ k _ h ⟨by omega,by omega,by have:=HA.out;omega⟩).mono ?_;rintro e w1 ⟨rfl,n1,rfl⟩;go_wp2_with fail;refine(ak s b i _ (k+1) _ (h.drewN _) ⟨by omega,by omega,by have:=HA.out;omega⟩).mono ?_;rintro e w1 ⟨rfl,n2,rfl⟩;go_wp2_with fail;go_ret;exact⟨aI HV.out.symm,_,rfl⟩
theorem lG(s:ByteArray)(b i:Nat)(a:Int)(k:Nat)(w:World)(h:Sc w b s i)(ha:0<=a/\a<=9/\(i:Int)+a=k):
  Calls prog 165 #[.pointer (some ⟨b,0,none⟩),.int .i64 a] w fun e w'=>e=.returned (.bool (jD s k))/\∃n,w'=w.drewN n:=by
 have g0:=ha.1;have g1:=ha.2.1;have HA:Hid ((i:Int)+a=k):=ha.2.2;clear ha;cases hn:iD (pk s k)
 .have HV:Hid (jD s k=jq s k):=by show jD s k=_;simp[jD,hn]
  go_in;go_wp2_with fail;refine(ak s b i _ k _ h ⟨by omega,by omega,by have:=HA.out;omega⟩).mono ?_;rintro e w1 ⟨rfl,n1,rfl⟩;go_wp2_with fail;refine(nH _ _).mono ?_;rintro e w1 ⟨rfl,rfl⟩;go_wp2_with fail;refine(fJ s b i _ k _ (h.drewN _) ⟨by omega,by omega,by have:=HA.out;omega⟩).mono ?_;rintro e w1 ⟨rfl,n2,rfl⟩;go_wp2_with fail;go_ret;exact⟨aI (by rw[HV.out]),_,rfl⟩
 .have HV:Hid (jD s k=true):=by show jD s k=_;simp[jD,hn]
  go_in;go_wp2_with fail;refine(ak s b i _ k _ h ⟨by omega,by omega,by have:=HA.out;omega⟩).mono ?_;rintro e w1 ⟨rfl,n1,rfl⟩;go_wp2_with fail;refine(nH _ _).mono ?_;rintro e w1 ⟨rfl,rfl⟩;go_wp2_with fail;go_ret;exact⟨aI HV.out.symm,_,rfl⟩
theorem gV(s:ByteArray)(b i:Nat)(a:Int)(k:Nat)(w:World)(h:Sc w b s i)(ha:0<=a/\a<=8/\(i:Int)+a=k):
  Calls prog 169 #[.pointer (some ⟨b,0,none⟩),.int .i64 a] w fun e w'=>e=.returned (.bool (iq s k))/\∃n,w'=w.drewN n:=by
 have g0:=ha.1;have g1:=ha.2.1;have HA:Hid ((i:Int)+a=k):=ha.2.2;clear ha;cases h45:(pk s k==45)
 .have n45:¬pk s k=45:=by simpa using h45
  cases hl:iY (pk s k)
  .have HV:Hid (iq s k=jq s k):=by show iq s k=_;simp[iq,n45,hl]
   clear n45;go_in;go_wp2_with fail;refine(ak s b i _ k _ h ⟨by omega,by omega,by have:=HA.out;omega⟩).mono ?_;rintro e w1 ⟨rfl,n1,rfl⟩;go_wp2_with fail;refine(ak s b i _ k _ (h.drewN _) ⟨by omega,by omega,by have:=HA.out;omega⟩).mono ?_;rintro e w1 ⟨rfl,n2,rfl⟩;go_wp2_with fail;refine(oh _ _).mono ?_;rintro e w1 ⟨rfl,rfl⟩;go_wp2_with fail;refine(fJ s b i _ k _ (h.drewN _) ⟨by omega,by omega,by have:=HA.out;omega⟩).mono ?_;rintro e w1 ⟨rfl,n3,rfl⟩;go_wp2_with fail;go_ret;exact⟨aI (by rw[HV.out]),_,rfl⟩
  .have HV:Hid (iq s k=true):=by show iq s k=_;simp[iq,n45,hl]
   clear n45;go_in;go_wp2_with fail;refine(ak s b i _ k _ h ⟨by omega,by omega,by have:=HA.out;omega⟩).mono ?_;rintro e w1 ⟨rfl,n1,rfl⟩;go_wp2_with fail;refine(ak s b i _ k _ (h.drewN _) ⟨by omega,by omega,by have:=HA.out;omega⟩).mono ?_;rintro e w1 ⟨rfl,n2,rfl⟩;go_wp2_with fail;refine(oh _ _).mono ?_;rintro e w1 ⟨rfl,rfl⟩;go_wp2_with fail;go_ret;exact⟨aI HV.out.symm,_,rfl⟩
 .have n45:pk s k=45:=by simpa using h45
  cases hl:iY (pk s (k+1))
  .cases hd:(pk s (k+1)==45)
   .have HV:Hid (iq s k=jq s (k+1)):=by show iq s k=_;simp[iq,n45,hl,hd]
    clear n45;go_in;go_wp2_with fail;refine(ak s b i _ k _ h ⟨by omega,by omega,by have:=HA.out;omega⟩).mono ?_;rintro e w1 ⟨rfl,n1,rfl⟩;go_wp2_with fail;refine(ak s b i _ (k+1) _ (h.drewN _) ⟨by omega,by omega,by have:=HA.out;omega⟩).mono ?_;rintro e w1 ⟨rfl,n2,rfl⟩;go_wp2_with fail;refine(oh _ _).mono ?_;rintro e w1 ⟨rfl,rfl⟩;go_wp2_with fail;refine(fJ s b i _ (k+1) _ (h.drewN _) ⟨by omega,by omega,by have:=HA.out;omega⟩).mono ?_;rintro e w1 ⟨rfl,n3,rfl⟩;go_wp2_with fail;go_ret;exact⟨aI (by rw[HV.out]),_,rfl⟩
   .have HV:Hid (iq s k=true):=by show iq s k=_;simp[iq,n45,hl,hd]
    clear n45;go_in;go_wp2_with fail;refine(ak s b i _ k _ h ⟨by omega,by omega,by have:=HA.out;omega⟩).mono ?_;rintro e w1 ⟨rfl,n1,rfl⟩;go_wp2_with fail;refine(ak s b i _ (k+1) _ (h.drewN _) ⟨by omega,by omega,by have:=HA.out;omega⟩).mono ?_;rintro e w1 ⟨rfl,n2,rfl⟩;go_wp2_with fail;refine(oh _ _).mono ?_;rintro e w1 ⟨rfl,rfl⟩;go_wp2_with fail;go_ret;exact⟨aI HV.out.symm,_,rfl⟩
  .have HV:Hid (iq s k=true):=by show iq s k=_;simp[iq,n45,hl]
   clear n45;go_in;go_wp2_with fail;refine(ak s b i _ k _ h ⟨by omega,by omega,by have:=HA.out;omega⟩).mono ?_;rintro e w1 ⟨rfl,n1,rfl⟩;go_wp2_with fail;refine(ak s b i _ (k+1) _ (h.drewN _) ⟨by omega,by omega,by have:=HA.out;omega⟩).mono ?_;rintro e w1 ⟨rfl,n2,rfl⟩;go_wp2_with fail;refine(oh _ _).mono ?_;rintro e w1 ⟨rfl,rfl⟩;go_wp2_with fail;go_ret;exact⟨aI HV.out.symm,_,rfl⟩
theorem dO(s:ByteArray)(b i:Nat)(w:World)(h:Sc w b s i):
  Calls prog 167 #[.pointer (some ⟨b,0,none⟩)] w fun e w'=>e=.returned (.bool (fV s i))/\∃n,w'=w.drewN n:=by
 cases hsg:tN (pk s i)
 .have hk:fO s i=i:=by simp[fO,hsg]
  cases h46:(pk s i==46);focus
   have HV:Hid (fV s i=aP (pk s i)):=by show fV s i=_;simp[fV,hk,h46]
   clear hk;go_in;go_wp2_with fail;refine(ak s b i _ i _ h ⟨by omega,by omega,by omega⟩).mono ?_;rintro e w1 ⟨rfl,n1,rfl⟩;go_wp2_with fail;refine(iF _ _).mono ?_;rintro e w1 ⟨rfl,rfl⟩;go_wp2_with fail;refine(ak s b i _ i _ (h.drewN _) ⟨by omega,by omega,by omega⟩).mono ?_;rintro e w1 ⟨rfl,n2,rfl⟩;go_wp2_with fail;refine(ak s b i _ i _ (h.drewN _) ⟨by omega,by omega,by omega⟩).mono ?_
  rotate_left;focus
   have HV:Hid (fV s i=aP (pk s (i+1))):=by
    have e:pk s i=46:=by simpa using h46
    show fV s i=_;rw[fV,hk,e];simp[aP]
   clear hk;go_in;go_wp2_with fail;refine(ak s b i _ i _ h ⟨by omega,by omega,by omega⟩).mono ?_;rintro e w1 ⟨rfl,n1,rfl⟩;go_wp2_with fail;refine(iF _ _).mono ?_;rintro e w1 ⟨rfl,rfl⟩;go_wp2_with fail;refine(ak s b i _ i _ (h.drewN _) ⟨by omega,by omega,by omega⟩).mono ?_;rintro e w1 ⟨rfl,n2,rfl⟩;go_wp2_with fail;refine(ak s b i _ (i+1) _ (h.drewN _) ⟨by omega,by omega,by omega⟩).mono ?_
  rotate_left;all_goals
   rintro e w1 ⟨rfl,n3,rfl⟩;go_wp2_with fail;refine(fG _ _).mono ?_;rintro e w1 ⟨rfl,rfl⟩;go_wp2_with fail;go_ret;exact⟨aI HV.out.symm,_,rfl⟩
 .have hk:fO s i=i+1:=by simp[fO,hsg]
  cases h46:(pk s (i+1)==46);focus
   have HV:Hid (fV s i=aP (pk s (i+1))):=by show fV s i=_;simp[fV,hk,h46]
   clear hk;go_in;go_wp2_with fail;refine(ak s b i _ i _ h ⟨by omega,by omega,by omega⟩).mono ?_;rintro e w1 ⟨rfl,n1,rfl⟩;go_wp2_with fail;refine(iF _ _).mono ?_;rintro e w1 ⟨rfl,rfl⟩;go_wp2_with fail;refine(ak s b i _ (i+1) _ (h.drewN _) ⟨by omega,by omega,by omega⟩).mono ?_;rintro e w1 ⟨rfl,n2,rfl⟩;go_wp2_with fail;refine(ak s b i _ (i+1) _ (h.drewN _) ⟨by omega,by omega,by omega⟩).mono ?_
  rotate_left;focus
   have HV:Hid (fV s i=aP (pk s (i+2))):=by
    have e:pk s (i+1)=46:=by simpa using h46
    show fV s i=_;rw[fV,hk,e];simp[aP]
   clear hk;go_in;go_wp2_with fail;refine(ak s b i _ i _ h ⟨by omega,by omega,by omega⟩).mono ?_;rintro e w1 ⟨rfl,n1,rfl⟩;go_wp2_with fail;refine(iF _ _).mono ?_;rintro e w1 ⟨rfl,rfl⟩;go_wp2_with fail;refine(ak s b i _ (i+1) _ (h.drewN _) ⟨by omega,by omega,by omega⟩).mono ?_;rintro e w1 ⟨rfl,n2,rfl⟩;go_wp2_with fail;refine(ak s b i _ (i+2) _ (h.drewN _) ⟨by omega,by omega,by omega⟩).mono ?_
  rotate_left;all_goals
   rintro e w1 ⟨rfl,n3,rfl⟩;go_wp2_with fail;refine(fG _ _).mono ?_;rintro e w1 ⟨rfl,rfl⟩;go_wp2_with fail;go_ret;exact⟨aI HV.out.symm,_,rfl⟩
theorem Dq{P:Program}{ops:Array Oper}{Q:Exit->Act->World->Prop}{md:Region.Mode}(i:Nat){oi:Oper}{v:Value}{fuel:Nat}{listed:Array Bool}{a a':Act}{w:World}
  (h:wpAny P md ops Q fuel (listed.setIfInBounds i true) a' w) (hi:ops[i]?=some oi:=by rfl) (hs:Region.noSelect ops=true:=by kernel_rfl) (hf:Region.free md ops listed i=true:=by kernel_rfl) (hr:(Region.ready md ops listed).contains i=true:=by kernel_rfl)
  (hw:Region.wanted oi (yielded ops a.tmps)=true:=by kernel_rfl) (hy:∀w,(execOp a.eval oi).run P w=.ok (.value v) w:=by intro w;go_simp;all_goals with_reducible rfl)
  (hQ:∀c a w,Q (.panic c) (a.put oi.dst v) w->Q (.panic c) a w:=by exact fun _ _ _ h=>h)
  (ha:a.put oi.dst v=a':=by(try simp only[List.getElem_toArray]);(try simp only[List.getElem_cons_succ]);(try simp only[List.getElem_cons_zero]);(try simp only[Act.put]);(try simp only[List.setIfInBounds_toArray]);(try simp only[List.set_cons_succ]);(try simp only[List.set_cons_zero]);all_goals with_reducible rfl):wpAny P md ops Q (fuel+1) listed a w:=by
 subst ha;exact wpAny_take hi hs hf hr hQ (Or.inl ⟨hw,hy⟩) h
theorem bY{P:Program}{ops:Array Oper}{Q:Exit->Act->World->Prop}{md:Region.Mode}{S:World->Prop}(i:Nat){oi:Oper}{v:Value}{fuel:Nat}{listed:Array Bool}{a a':Act}{w:World}
  (hi:ops[i]?=some oi) (hS:S w) (hy:∀w,S w->(execOp a.eval oi).run P w=.ok (.value v) w) (h:wpAnyH P md ops Q S fuel (listed.setIfInBounds i true) a' w) (hs:Region.noSelect ops=true:=by kernel_rfl) (hf:Region.free md ops listed i=true:=by kernel_rfl) (hr:(Region.ready md ops listed).contains i=true:=by kernel_rfl)
  (hw:Region.wanted oi (yielded ops a.tmps)=true:=by kernel_rfl)
  (hQ:∀c a w,Q (.panic c) (a.put oi.dst v) w->Q (.panic c) a w:=by exact fun _ _ _ h=>h)
  (ha:a.put oi.dst v=a':=by(try simp only[List.getElem_toArray]);(try simp only[List.getElem_cons_succ]);(try simp only[List.getElem_cons_zero]);(try simp only[Act.put]);(try simp only[List.setIfInBounds_toArray]);(try simp only[List.set_cons_succ]);(try simp only[List.set_cons_zero]);all_goals with_reducible rfl):wpAnyH P md ops Q S (fuel+1) listed a w:=by
 subst ha;exact wpAnyH_take hi hs hf hr hQ (Or.inl ⟨hw,hy⟩) hS h
theorem Ve{P:Program}{ops:Array Oper}{Q:Exit->Act->World->Prop}{md:Region.Mode}{S:World->Prop}(i:Nat){oi:Oper}{v:Value}{fuel:Nat}{listed:Array Bool}{a a':Act}{w:World}
  (hi:ops[i]?=some oi) (hS:S w) (hy:∀w,S w->(execOp a.eval oi).run P w=.ok (.value v) w) (h:wpAnyH P md ops Q S fuel (listed.setIfInBounds i true) a' w) (hs:Region.noSelect ops=true:=by kernel_rfl) (hf:Region.free md ops listed i=true:=by kernel_rfl) (hr:(Region.ready md ops listed).contains i=true:=by kernel_rfl)
  (hw:Region.wanted oi (yielded ops a.tmps)=true:=by kernel_rfl)
  (hQ:∀c a w,Q (.panic c) (a.put oi.dst v) w->Q (.panic c) a w:=by exact fun _ _ _ h=>h)
  (ha:a.put oi.dst v=a':=by(try simp only[Act.put,List.setIfInBounds_toArray,List.set_cons_zero,List.set_cons_succ]);all_goals with_reducible rfl):wpAnyH P md ops Q S (fuel+1) listed a w:=by
 subst ha;exact wpAnyH_take hi hs hf hr hQ (Or.inl ⟨hw,hy⟩) hS h
theorem brA{P:Program}{ops:Array Oper}{Q:Exit->Act->World->Prop}{md:Region.Mode}(i:Nat){o:Oper}{fuel:Nat}{listed:Array Bool}{a:Act}{w:World}
  (h:∀K':Act->World->Prop,(∀a w,wpAny P md ops Q fuel (listed.setIfInBounds i true) a w->K' a w)->if Region.wanted o (yielded ops a.tmps)=true then Oper.wp P o a w K' Q else K' (a.put o.dst undef) w)
  (ho:ops[i]?=some o:=by rfl) (hr:Region.ready md ops listed=[i]:=by kernel_rfl):wpAny P md ops Q (fuel+1) listed a w:=
 wpAny_ready hr (by simp) (AllReady.cons ho h AllReady.nil)
theorem jh{P:Program}{ops:Array Oper}{Q:Exit->Act->World->Prop}{md:Region.Mode}{S:World->Prop}(i:Nat){o:Oper}{fuel:Nat}{listed:Array Bool}{a:Act}{w:World}
  (h:∀K':Act->World->Prop,Shut (∀a w,S w->(S w->wpAnyH P md ops Q S fuel (listed.setIfInBounds i true) a w)->K' a w)->if Region.wanted o (yielded ops a.tmps)=true then Oper.wp P o a w K' Q else K' (a.put o.dst undef) w)
  (ho:ops[i]?=some o:=by rfl) (hr:Region.ready md ops listed=[i]:=by kernel_rfl):wpAnyH P md ops Q S (fuel+1) listed a w:=
 wpAnyH_ready hr (by simp) (AllReadyH.cons ho h AllReadyH.nil)
theorem aN{P:Program}{f:FuncId}{args:Array Value}{w w2:World}{v:Value}{Q:Ending->World->Prop}(h:Calls P f args w fun e w'=>e=.returned v/\w'=w2)(k:Q (.returned v) w2):Calls P f args w Q:=h.mono fun _ _ ⟨he,hw⟩=>by rw[he,hw];exact k
theorem dK{α:Type}{P:Program}{f:FuncId}{args:Array Value}{w:World}{w2:α->World}{v:Value}{Q:Ending->World->Prop}(h:Calls P f args w fun e w'=>e=.returned v/\∃n,w'=w2 n)(k:∀n,Q (.returned v) (w2 n)):Calls P f args w Q:=h.mono fun _ _ ⟨he,n,hw⟩=>by rw[he,hw];exact k n
theorem pmb{P:Program}{f:FuncId}{args:Array Value}{w:World}{R:World->Prop}{v:Value}{Q:Ending->World->Prop}(h:Calls P f args w fun e w'=>e=.returned v/\R w')(k:∀w',R w'->Q (.returned v) w'):Calls P f args w Q:=h.mono fun _ w' ⟨he,hw⟩=>by rw[he];exact k w' hw
theorem gs{p:Prop}(h:p:=by go_simp;all_goals with_reducible rfl):p:=h
theorem oa{p:Prop}(h:p:=by first|omega|(simp only[ByteArray.size_append];omega)):p:=h
theorem oo{p:Prop}(h:p:=by omega):p:=h
theorem nl{n:Nat}:n<=n:=Nat.le_refl n
theorem _root_.Go.RowKit.Hid.o{p:Prop}(h:Hid p):p:=h
theorem _root_.Go.Aside.o{p:Prop}(h:Aside p):p:=h
theorem _root_.Go.Shut.o{p:Prop}(h:Shut p):p:=h
end
end Go.Proofs.YtlliliddljkbfaaGreatDoor
namespace Go.Proofs.YtlliliddljkbfaaGreatDoor.Sp
set_option maxHeartbeats 64000000
set_option maxRecDepth 100000
inductive Nd where
 |mk (t:Tok) (kids:List Nd)
def Nd.t:Nd->Tok
 |.mk t _=>t
def Nd.kids:Nd->List Nd
 |.mk _ k=>k
@[simp] theorem Nd.afc (t:Tok) (k:List Nd):(Nd.mk t k).t=t:=rfl
@[simp] theorem Nd.YL (t:Tok) (k:List Nd):(Nd.mk t k).kids=k:=rfl
def b1(n:UInt8):ByteArray:=⟨#[n]⟩
def aA:ByteArray:=⟨#[]⟩
def closing(t:Tok):ByteArray:=if t.kind=11 then b1 41 else if t.kind=15 then(if t.word=b1 40 then b1 41 else if t.word=b1 91 then b1 93 else if t.word=b1 123 then b1 125 else aA) else aA
def ay(t:Tok)(w:ByteArray):Bool:=decide (t.kind=15)&&decide (t.word=w)
def dY(n:Nd)(w:ByteArray):Bool:=ay n.t w
structure cZ(t:Tok):Prop where
 word:t.word.size<=4000000
 unit:t.unit.size<=1000
 num:t.kind=5->0<t.word.size
 dim:t.kind=7->0<t.unit.size
 sign:t.kind=15->t.word.size=1
 named:t.kind=4\/t.kind=10\/t.kind=11\/t.kind=14->0<t.word.size
def mX:Nat->ByteArray->List Tok->List Nd×List Tok
 |0,_,ts=>([],ts)
 |_+1,_,[]=>([],[])
 |f+1,e,t::r=>
  if e≠aA/\ay t e=true then([],r)
  else
   let a:=if closing t=aA then([],r) else mX f (closing t) r
   let b:=mX f e a.2
   (.mk t a.1::b.1,b.2)
def kids(e:ByteArray)(ts:List Tok):List Nd×List Tok:=mX ts.length e ts
def inside(t:Tok)(r:List Tok):List Nd×List Tok:=if closing t=aA then([],r) else kids (closing t) r
def nodes(ts:List Tok):List Nd:=(kids aA ts).1
mutual
def jS:Nd->Nat
 |.mk t k=>if closing t=aA then 0 else depth k+1
def depth:List Nd->Nat
 |[]=>0
 |n::r=>max (jS n) (depth r)
end
def nI(n:Nd):Bool:=decide (n.t.kind=1)
def aC:List Nd->List Nd
 |[]=>[]
 |n::r=>if nI n=true then aC r else n::r
def kG(l:List Nd):List Nd:=(aC l.reverse).reverse
def bare(l:List Nd):List Nd:=kG (aC l)
def kW(out:List (List Nd))(cur:List Nd):List Nd->List (List Nd)
 |[]=>out++[cur]
 |n::r=>if dY n (b1 44)=true then kW (out++[cur]) [] r else kW out (cur++[n]) r
def parted(l:List Nd):List (List Nd):=kW [] [] l
inductive Simple where
 |mk (kind:Nat) (name how value:ByteArray) (list:List (List (Nat×List Simple))) (place:Nat)
abbrev Step:=Nat×List Simple
abbrev fC:=List (List Step)
def Simple.of(kind:Nat)(name:ByteArray):Simple:=.mk kind name aA aA [] 0
def gQ(l:List Nd):Option (Nat×List Nd):=
 match aC l with
 |[]=>if l=[] then none else some (32,[])
 |n::r=>
  if dY n (b1 62)=true then some (62,aC r)
  else if dY n (b1 43)=true then some (43,aC r)
  else if dY n (b1 126)=true then some (126,aC r)
  else if (n::r).length<l.length then some (32,n::r) else none
def zq:ByteArray:=⟨#[114,111,111,116]⟩
def su:ByteArray:=⟨#[102,105,114,115,116,45,99,104,105,108,100]⟩
def zu:ByteArray:=⟨#[108,97,115,116,45,99,104,105,108,100]⟩
def sD:ByteArray:=⟨#[101,109,112,116,121]⟩
def lg:ByteArray:=⟨#[110,111,116]⟩
def xB:ByteArray:=⟨#[105,115]⟩
def iR:ByteArray:=⟨#[110,116,104,45,99,104,105,108,100]⟩
def qC:ByteArray:=⟨#[111,100,100]⟩
def kH:ByteArray:=⟨#[101,118,101,110]⟩
def jR:Nat->List UInt8->Option Nat
 |v,[]=>if v<=999 then some v else none
 |v,c::r=>if 48<=c.toNat/\c.toNat<=57/\v<=999 then jR (10*v+c.toNat-48) r else none
def placeOf(t:Tok):Option Nat:=
 if t.kind=14 then(if small t.word=kH then some 1 else if small t.word=qC then some 0 else none)
 else if t.kind=5/\aP (pk t.word 0)=true then(jR 0 t.word.data.toList).map (· + 2)
 else none
def dh(l:List Nd):Option Simple:=
 match l with
 |[]=>none
 |n::r=>
  if n.t.kind≠14 then none
  else
   let l1:=bare r
   match l1 with
   |[]=>some (Simple.of 91 n.t.word)
   |m::r1=>
    if m.t.kind≠15 then none
    else
     let h:=m.t.word=b1 126\/m.t.word=b1 94\/m.t.word=b1 36\/m.t.word=b1 42
     let l2:=if h then r1 else m::r1
     match l2 with
     |[]=>none
     |q::r2=>
      match bare r2 with
      |[v]=>if dY q (b1 61)=true/\(v.t.kind=14\/v.t.kind=2) then some (.mk 91 n.t.word ((if h then m.t.word else aA)++b1 61) v.t.word [] 0) else none
      |_=>none
section
variable (rec:List Nd->Option fC)
def aK(n:Nd):Option Simple:=
 let w:=small n.t.word
 if n.t.kind=14 then(if w=zq\/w=su\/w=zu\/w=sD then some (Simple.of 58 w) else none)
 else if n.t.kind≠11 then none
 else if w=lg\/w=xB then(rec n.kids).map (fun l=>.mk 58 w aA aA l 0)
 else if w=iR then
  (match bare n.kids with
   |[v]=>(placeOf v.t).map (fun p=>.mk 58 w aA aA [] p)
   |_=>none)
 else none
def bD:List Simple->List Nd->Option (List Simple×List Nd)
 |acc,[]=>some (acc,[])
 |acc,[n]=>
  if n.t.kind=4 then some (acc++[Simple.of 35 n.t.word],[])
  else if dY n (b1 46)=true then none
  else if dY n (b1 91)=true then(match dh (bare n.kids)with|none=>none|some s=>some (acc++[s],[]))
  else if dY n (b1 58)=true then none
  else some (acc,[n])
 |acc,n::m::r=>
  if n.t.kind=4 then bD (acc++[Simple.of 35 n.t.word]) (m::r)
  else if dY n (b1 46)=true then(if m.t.kind=14 then bD (acc++[Simple.of 46 m.t.word]) r else none)
  else if dY n (b1 91)=true then(match dh (bare n.kids)with|none=>none|some s=>bD (acc++[s]) (m::r))
  else if dY n (b1 58)=true then(match aK rec m with|none=>none|some s=>bD (acc++[s]) r)
  else some (acc,n::m::r)
def oW(l:List Nd):List Simple×List Nd:=
 match l with
 |[]=>([],[])
 |n::r=>if n.t.kind=14 then([Simple.of 116 (small n.t.word)],r) else if dY n (b1 42)=true then([Simple.of 116 aA],r) else([],n::r)
def aJ(l:List Nd):Option (List Simple×List Nd):=bD rec (oW l).1 (oW l).2
def dR:Nat->Nat->List Nd->Option (List Step)
 |0,_,_=>none
 |f+1,b,l=>
  match aJ rec l with
  |none=>none
  |some (all,r)=>
   if all=[] then none
   else if r=[] then some [(b,all)]
   else match gQ r with
    |none=>none
    |some (c,r')=>(dR f c r').map (fun x=>(b,all)::x)
def fD(l:List Nd):Option (List Step):=dR rec (l.length+1) 0 l
def jT:List (List Nd)->Option fC
 |[]=>some []
 |p::r=>match fD rec (bare p)with|none=>none|some s=>(jT r).map (fun x=>s::x)
def tX(l:List Nd):Option fC:=if 8<(parted l).length then none else jT rec (parted l)
end
def ny:Nat->List Nd->Option fC
 |0,l=>tX (fun _=>none) l
 |f+1,l=>tX (ny f) l
def zx(l:List Nd):Option fC:=ny (depth l) l
structure Elem where
 parent:Int
 tag:ByteArray
 id:ByteArray
 classes:List ByteArray
 attrs:List (ByteArray×ByteArray)
abbrev oP:=List Elem
def Vf(c:UInt8):Bool:=(decide (97<=c.toNat)&&decide (c.toNat<=122))||(decide (48<=c.toNat)&&decide (c.toNat<=57))||c==45
def nameP(s:ByteArray):Bool:=s.data.toList.all Vf&&decide (s.size<=12)
def Vg(s:ByteArray):Bool:=s.data.toList.all (fun c=>Vf c||c==32)&&decide (s.size<=24)
def acy(i:Nat)(x:Elem):Bool:=
 nameP x.tag&&!decide (x.tag=aA)&&nameP x.id&&decide (x.classes.length<=4)&&decide (x.attrs.length<=4) &&
 (if i=0 then x.parent == -1 else decide (0<=x.parent)&&decide (x.parent<i)) &&
 x.classes.all (fun c=>nameP c&&!decide (c=aA))&&x.attrs.all (fun a=>nameP a.1&&Vg a.2&&!decide (a.1=aA))
def Vh:Nat->oP->Bool
 |_,[]=>true
 |i,x::r=>acy i x&&Vh (i+1) r
def aax(p:oP):Bool:=decide (1<=p.length)&&decide (p.length<=30)&&Vh 0 p
def parentOf(p:oP)(e:Nat):Int:=(p[e]?.map Elem.parent).getD (-1)
def Jy(p:oP)(q:Int):Nat->List Nat
 |0=>[]
 |k+1=>if parentOf p k=q then Jy p q k++[k] else Jy p q k
def ahead(p:oP)(e:Nat):List Nat:=Jy p (parentOf p e) e
def before(p:oP)(e:Nat):Int:=match (ahead p e).getLast? with|none=>-1|some k=>(k:Int)
def OH(p:oP)(e:Nat):Nat:=(ahead p e).length+1
def lastB(p:oP)(e:Nat):Bool:=(List.range p.length).all (fun k=>!(decide (e<k)&&parentOf p k==parentOf p e))
def aaS(p:oP)(e:Nat):Bool:=(List.range p.length).all (fun k=>parentOf p k != (e:Int))
def OI:ByteArray->List UInt8->List ByteArray
 |w,[]=>[w]
 |w,c::r=>if bJ c.toNat=true then w::OI aA r else OI (w++b1 c) r
def aaT(s v:ByteArray):Bool:=!decide (v=aA)&&(OI aA s.data.toList).any (fun c=>decide (c=v))
def Vj(s v:ByteArray)(i:Nat):Bool:=decide (i+v.size<=s.size)&&decide (s.extract i (i+v.size)=v)
def acz(s v:ByteArray):Bool:=(List.range (s.size+1)).any (Vj s v)
def fits(how x v:ByteArray):Bool:=
 if how=aA then true
 else if how=b1 61 then decide (x=v)
 else if how=⟨#[126,61]⟩ then aaT x v
 else !decide (v=aA)&&(if how=⟨#[94,61]⟩ then Vj x v 0 else if how=⟨#[36,61]⟩ then decide (v.size<=x.size)&&Vj x v (x.size-v.size) else acz x v)
def aay(name how v:ByteArray):List (ByteArray×ByteArray)->Bool
 |[]=>false
 |a::r=>if a.1=name then fits how a.2 v else aay name how v r
def YM(kind:Nat)(name how value:ByteArray)(place:Nat)(p:oP)(e:Nat)(inn:Bool):Bool:=
 match p[e]? with
 |none=>false
 |some x=>
  if kind=116 then decide (name=aA)||decide (name=small x.tag)
  else if kind=35 then !decide (x.id=aA)&&decide (x.id=name)
  else if kind=46 then x.classes.any (fun c=>decide (c=name))
  else if kind=91 then aay name how value x.attrs
  else if name=zq then e==0
  else if name=su then OH p e==1
  else if name=zu then lastB p e
  else if name=sD then aaS p e
  else if name=iR then(if 2<=place then OH p e==place-2 else OH p e%2==1-place)
  else if name=lg then !inn
  else inn
def acA(p:oP)(by_:Nat)(was:Nat->Bool):Nat->Nat->Bool
 |0,_=>false
 |f+1,e=>
  let e':=if by_=32\/by_=62 then parentOf p e else before p e
  if e'<0 then false
  else if was e'.toNat=true then true
  else if by_=62\/by_=43 then false
  else acA p by_ was f e'.toNat
def led(p:oP)(by_:Nat)(was:Nat->Bool)(e:Nat):Bool:=acA p by_ was (e+1) e
mutual
def onS(p:oP):Simple->Nat->Bool
 |.mk kind name how value list place,e=>YM kind name how value place p e (onL p list e)
def onA(p:oP):List Simple->Nat->Bool
 |[],_=>true
 |s::r,e=>onS p s e&&onA p r e
def onT(p:oP):Nat×List Simple->Nat->Bool
 |(_,all),e=>onA p all e
def onC(p:oP):List (Nat×List Simple)->Option (Nat->Bool)->Nat->Bool
 |[],was,e=>(was.getD (fun _=>false)) e
 |(b,all)::r,was,e=>onC p r (some (fun k=>(match was with|none=>true|some f=>led p b f k)&&onA p all k)) e
def onL(p:oP):List (List (Nat×List Simple))->Nat->Bool
 |[],_=>false
 |c::r,e=>onC p c none e||onL p r e
end
def acB(selector:ByteArray)(p:oP)(e:Int):Bool×Int:=
 if 100<selector.size then(false,1)
 else if ¬(aax p=true/\0<=e/\e<p.length) then(false,4)
 else
  let l:=nodes (toks (clean selector))
  match zx l with
  |none=>(false,3)
  |some s=>if 8<depth l then(false,3) else(onL p s e.toNat,0)
end Go.Proofs.YtlliliddljkbfaaGreatDoor.Sp
