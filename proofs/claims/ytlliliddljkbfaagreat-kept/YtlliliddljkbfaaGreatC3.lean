import Derived.Test.YtlliliddljkbfaaGreatC2
import Derived.Shelf.Small.Wraps
import Derived.Shelf.Strconv.Itoa3
import Derived.Shelf.Strings.Shaped
import Derived.Shelf.Strings.SplitShaped
import Derived.Shelf.Strings.FieldsAny
import Derived.Shelf.Unicode.ExclAny
import Derived.Shelf.Slices.Turned
import Derived.Test.YtlliliddljkbfaaGreatProg
import Derived.Conc.LoneCalls
set_option maxHeartbeats 64000000
set_option maxRecDepth 100000
namespace Go.Proofs.YtlliliddljkbfaaGreat
open Go.Proofs.Tryz (prog)
open Go.RowKit Sp
structure gX(w:WD)(R:Nat):Prop where
 blk:w.heap[R]?=some (.cells #[.int .i64 0,.string ⟨#[]⟩,.string ⟨#[]⟩] 93 (0,0))
theorem gX.new(w:WD):gX (w.alloc (.cells #[.int .i64 0,.string ⟨#[]⟩,.string ⟨#[]⟩] 93 (0,0))) w.heap.size:=⟨heap_alloc_new w _⟩
theorem gX.nh(w:WD):Hid (gX (w.alloc (.cells #[.int .i64 0,.string ⟨#[]⟩,.string ⟨#[]⟩] 93 (0,0))) w.heap.size):=gX.new w
theorem gX.lt{w:WD}{R:Nat}(h:gX w R):R<w.heap.size:=(Ax h.blk)
theorem gX.c0{w:WD}{R:Nat}(h:gX w R):w.cell? ⟨R,0,none⟩=some (.int .i64 0):=by unfold World.cell?;rw[h.blk];rfl
theorem gX.c1{w:WD}{R:Nat}(h:gX w R):w.cell? ⟨R,1,none⟩=some (.string ⟨#[]⟩):=by unfold World.cell?;rw[h.blk];rfl
theorem gX.c2{w:WD}{R:Nat}(h:gX w R):w.cell? ⟨R,2,none⟩=some (.string ⟨#[]⟩):=by unfold World.cell?;rw[h.blk];rfl
theorem gX.f{w:WD}{R:Nat}(h:gX w R)(o:Nat):w.frozen? ⟨R,o,none⟩=false:=by unfold World.frozen?;rw[h.blk];simp
theorem gX.turn{w w':WD}{R b:Nat}(h:gX w R)(ht:Turn b w w')(hb:R≠b):gX w' R:=⟨by rw[ht.block R h.lt hb];exact h.blk⟩
theorem gX.drewN{w:WD}{R:Nat}(h:gX w R)(n:Nat):gX (w.drewN n) R:=⟨h.blk⟩
theorem gX.set{w:WD}{R b o:Nat}(h:gX w R)(hb:R≠b)(v:Av):gX (w.setCell ⟨b,o,none⟩ v) R:=⟨by rw[Below.heap_setCell _ _ _ _ (by exact hb)];exact h.blk⟩
theorem aB.cu{b k:Nat}{s:BY}{w w1:WD}{R:Nat}(h:aB b s k w w1)(hb:b<w.heap.size)(hR:w.heap.size<=R)(o:Nat)(v:Av):aB b s k w (w1.setCell ⟨R,o,none⟩ v):=by
 have hp:=h.1.pos;have hsz:=h.2.size;refine⟨⟨?_,?_,h.1.pos,h.1.len,h.1.le⟩,⟨h.2.os,h.2.tape,h.2.output,by simp[World.setCell];exact h.2.size,fun j hj hjb=>?_⟩⟩
 .rw[Below.heap_setCell _ _ _ _ (by show b≠R;omega)];exact h.1.blk
 .obtain⟨m,hm⟩:=h.1.glob;exact⟨m,by rw[<-hm];exact World.cell?_of_block (w:=w1) (Below.heap_setCell _ _ _ _ (by show(0:Nat)≠R;omega))⟩
 .rw[Below.heap_setCell _ _ _ _ (by show j≠R;omega)];exact h.2.block j hj hjb
def bF(t:Tok):Av:=.agg #[.int .i64 t.kind,.string t.word,.string t.unit]
theorem Nh(s:BY)(b i:Nat)(w:WD)(h:Sc w b s i):
  Calls prog 182 #[.pointer (some ⟨b,0,none⟩)] w fun e w'=>e=.returned (bF (Sp.numeric s i).1)/\aB b s (Sp.numeric s i).2 w w':=by
 have W:=aB.nh h;have hbw:b<w.heap.size:=h.lt;clear h;cases h37:(pk s (bT s i)==37)
 .have n37:¬pk s (bT s i)=37:=by simpa using h37
  cases hbg:iG s (bT s i)
  .have HV:Hid (Sp.numeric s i=(Tok.w 5 (s.extract i (bT s i)),bT s i)):=by
    show _=_;unfold Sp.numeric;dsimp only;rw[if_neg n37,if_neg (by simp[hbg])]
   clear n37;go_in;go_wp2_with fail;refine pmb (IL s b i _ W.o.1) fun w1 aj=>?_;have W1:=hid (W.o.trans aj);have R1:Hid (gX w1 w.heap.size):=(gX.new w).turn aj.2 oo;clear aj;have c01:=W1.o.1.c0;have c11:=W1.o.1.c1;have cf1:=W1.o.1.f1;have cl1:=W1.o.1.lt;have cs1:=W1.o.1.len;have ce1:=W1.o.1.le;go_wp2_with fail;refine cZ (ak s b (bT s i) _ (bT s i) _ (W1.o.1) ⟨oo,oo,oo⟩) fun nq=>?_;go_wp2_with fail;refine cZ (fP s b (bT s i) _ (bT s i) _ (W1.o.1.drewN _) ⟨oo,oo,oo⟩) fun nq=>?_;have r0:=R1.o.c0;have r1:=R1.o.c1;have r2:=R1.o.c2;have rf:=R1.o.f;have rl:=R1.o.lt;go_wp2_with fail;rw[HV.o]
   exact bodyPost_ret (v:=bF (Tok.w 5 (s.extract i (bT s i)))) (by simp[results,Tryz.results182,go_sem,bF,Tok.w,r0,r1,r2];rfl) rfl ⟨rfl,((((W1.o.drewN _)).cu hbw nl _ _).cu hbw nl _ _).cu hbw nl _ _⟩
  .have HV:Hid (Sp.numeric s i=(⟨7,s.extract i (bT s i),(Sp.name s (bT s i)).1⟩,(Sp.name s (bT s i)).2)):=by
    show _=_;unfold Sp.numeric;dsimp only;rw[if_neg n37,if_pos hbg]
   clear n37;go_in;go_wp2_with fail;refine pmb (IL s b i _ W.o.1) fun w1 aj=>?_;have W1:=hid (W.o.trans aj);have R1:Hid (gX w1 w.heap.size):=(gX.new w).turn aj.2 oo;clear aj;go_wp2_with fail;refine cZ (ak s b (bT s i) _ (bT s i) _ (W1.o.1) ⟨oo,oo,oo⟩) fun nq=>?_;go_wp2_with fail;refine cZ (fP s b (bT s i) _ (bT s i) _ (W1.o.1.drewN _) ⟨oo,oo,oo⟩) fun nq=>?_;go_wp2_with fail;refine pmb (Ar s b (bT s i) _ (W1.o.1.drewN _)) fun w2 aj=>?_;have W2:Hid (aB b s (Sp.name s (bT s i)).2 w w2):=(W1.o.drewN _).trans aj;have R2:Hid (gX w2 w.heap.size):=(R1.o.drewN _).turn aj.2 oo;clear aj;have r0:=R2.o.c0;have r1:=R2.o.c1;have r2:=R2.o.c2;have rf:=R2.o.f;have rl:=R2.o.lt;go_wp2_with fail;rw[HV.o]
   exact bodyPost_ret (v:=bF ⟨7,s.extract i (bT s i),(Sp.name s (bT s i)).1⟩) (by simp[results,Tryz.results182,go_sem,bF,r0,r1,r2]) rfl ⟨rfl,((W2.o.cu hbw nl _ _).cu hbw nl _ _).cu hbw nl _ _⟩
 .have hlt:bT s i<s.size:=dY (by have:pk s (bT s i)=37:=(by simpa using h37);omega);have HV:Hid (Sp.numeric s i=(Tok.w 6 (s.extract i (bT s i)),bT s i+1)):=by
   show _=_;unfold Sp.numeric;dsimp only;rw[if_pos (by simpa using h37)]
  go_in;go_wp2_with fail;refine pmb (IL s b i _ W.o.1) fun w1 aj=>?_;have W1:=hid (W.o.trans aj);have R1:Hid (gX w1 w.heap.size):=(gX.new w).turn aj.2 oo;clear aj;have c01:=W1.o.1.c0;have c11:=W1.o.1.c1;have cf1:=W1.o.1.f1;have cl1:=W1.o.1.lt;have cs1:=W1.o.1.len;have ce1:=W1.o.1.le;go_wp2_with fail;refine cZ (ak s b (bT s i) _ (bT s i) _ (W1.o.1) ⟨oo,oo,oo⟩) fun nq=>?_;have r0:=R1.o.c0;have r1:=R1.o.c1;have r2:=R1.o.c2;have rf:=R1.o.f;have rl:=R1.o.lt;go_wp2_with fail;rw[HV.o];exact bodyPost_ret (v:=bF (Tok.w 6 (s.extract i (bT s i)))) (by simp[results,Tryz.results182,go_sem,bF,Tok.w,r0,r1,r2];rfl) rfl ⟨rfl,(((((W1.o.drewN _).iP _ (bT s i+1) oo oo)).cu hbw nl _ _).cu hbw nl _ _).cu hbw nl _ _⟩
theorem gX.alloc{w:WD}{R:Nat}(h:gX w R)(o:Obj):gX (w.alloc o) R:=⟨by rw[Below.heap_alloc _ _ _ h.lt];exact h.blk⟩
theorem gX.grown{w w':WD}{R:Nat}{row:Option Nat}(h:gX w R)(hg:w.grownBy w' row)(hr:∀r,row=some r->R<r):gX w' R:=⟨by rw[hg.block R h.lt (fun e=>by have:=hr R e.symm;omega)];exact h.blk⟩
theorem gX.below{w w':WD}{R:Nat}(h:gX w R)(hb:Below w.heap.size w w'):gX w' R:=⟨by rw[hb.block R h.lt];exact h.blk⟩
theorem FD(ps:List BY):aG (ps++[ByteArray.empty])=aG ps:=by rw[dw];simp
theorem IQ(s:BY)(b i:Nat)(w:WD)(h:Sc w b s i)(hi:i<s.size)(he:s.size<=i+1):
  Calls prog 236 #[.pointer (some ⟨b,0,none⟩)] w fun e w'=>e=.returned (.string ByteArray.empty)/\aB b s (i+1) w w':=by
 have W:Hid (aB b s i w w):=aB.refl h;clear h;have c00:=W.o.1.c0;have c10:=W.o.1.c1;have KY:=W.o.1.f1;have KZ:=W.o.1.lt;have cs0:=W.o.1.len;have La:=W.o.1.le;have e1:(pk s (i+1) == -1)=true:=by rw[oK he];rfl
 go_in;go_wp2_with fail;refine cZ (ak s b (i) _ (i+1) _ (W.o.1) ⟨oo,oo,oo⟩) fun nq=>?_;go_wp2_with fail;go_ret;exact⟨rfl,(W.o.drewN _).iP _ (i+1) oo oo⟩
theorem F5(s:BY)(b i:Nat)(w:WD)(h:Sc w b s i)(hi:i+1<s.size)(he:pk s (i+1)=10):
  Calls prog 236 #[.pointer (some ⟨b,0,none⟩)] w fun e w'=>e=.returned (.string ByteArray.empty)/\aB b s (i+2) w w':=by
 have W:Hid (aB b s i w w):=aB.refl h;clear h;have c00:=W.o.1.c0;have c10:=W.o.1.c1;have KY:=W.o.1.f1;have KZ:=W.o.1.lt;have cs0:=W.o.1.len;have La:=W.o.1.le;have e1:(pk s (i+1) == -1)=false:=by rw[he];rfl
 have e2:(pk s (i+1)==10)=true:=by rw[he];rfl
 clear he;go_in;go_wp2_with fail;refine cZ (ak s b (i) _ (i+1) _ (W.o.1) ⟨oo,oo,oo⟩) fun nq=>?_;go_wp2_with fail;go_ret;exact⟨rfl,(W.o.drewN _).iP _ (i+2) oo oo⟩
theorem IU(s:BY)(b i:Nat)(w:WD)(h:Sc w b s i)(hi:i+1<s.size)(he:¬pk s (i+1)=10):
  Calls prog 236 #[.pointer (some ⟨b,0,none⟩)] w fun e w'=>e=.returned (.string (esc s i).1)/\aB b s (esc s i).2 w w':=by
 have W:Hid (aB b s i w w):=aB.refl h;clear h;have e1:(pk s (i+1) == -1)=false:=by have:=tK hi;simp;omega
 have e2:(pk s (i+1)==10)=false:=by simpa using he
 clear he;go_in;go_wp2_with fail;refine cZ (ak s b (i) _ (i+1) _ (W.o.1) ⟨oo,oo,oo⟩) fun nq=>?_;go_wp2_with fail;refine pmb (BU s b i _ (W.o.1.drewN _) oo) fun w1 aj=>?_;have W1:Hid (aB b s (esc s i).2 w w1):=(W.o.drewN _).trans aj;clear aj;go_wp2_with fail;go_ret;exact⟨rfl,W1.o⟩
theorem ajf(s:BY)(b i:Nat)(w:WD)(h:Sc w b s i)(hi:i<s.size):
  Calls prog 178 #[.pointer (some ⟨b,0,none⟩)] w fun e w'=>e=.returned (bF (txt s (pk s i) (i+1)).1)/\aB b s (txt s (pk s i) (i+1)).2 w w':=by
 have W:=aB.nh h;have hbw:b<w.heap.size:=h.lt;have hs:s.size<=600:=h.len;clear h;obtain⟨iS,wK⟩:=info_str;have HI:=hid wK;clear wK;obtain⟨q,HQ⟩:=Nm (pk s i);rw[HQ.o];have c00:=W.o.1.c0;have c10:=W.o.1.c1;have KY:=W.o.1.f1;have KZ:=W.o.1.lt;have cs0:=W.o.1.len;have La:=W.o.1.le;go_in;go_wp2_with fail;refine ji (fun Q' hF=>?_);go_wp2_with fail;refine(ak s b i _ i _ W.o.1 ⟨oo,oo,oo⟩).mono ?_;rw[HQ.o];rintro e wq ⟨rfl,nq,rfl⟩;go_wp2_with fail
 go_loopg[3] s.size (fun g v3 wr=>∃(v:Av) (k:Nat) (ps:List BY),v=v3/\s.size<=k+g/\ps.length<=k/\total ps<=k/\Aside (lK s q g k (aG ps)=txt s q (i+1)/\wr.ownsRow (w.heap.size+1) 9 1 v ps.length (ps.map Value.string)/\aB b s k w wr/\gX wr w.heap.size));case atStart=>exact⟨_,i+1,[],rfl,oo,by simp,by simp[total],rfl,World.ownsRow_nil _ _ _ _,(W.o.drewN _).iP _ (i+1) oo oo,((gX.new w).drewN _).set oo _⟩
 case round=>
  obtain⟨v3,k,ps,rfl,hk,hpl,hpt,hA⟩:=hrel;have H1:=hid hA.o.1;have HO:=hid hA.o.2.1;have H2:=hid hA.o.2.2.1;have HR:=hid hA.o.2.2.2;clear hA;have c02:=H2.o.1.c0;have c12:=H2.o.1.c1;have cf2:=H2.o.1.f1;have cl2:=H2.o.1.lt;have cs2:=H2.o.1.len;have ce2:=H2.o.1.le;by_cases hend:s.size<=k
  .have e0:(pk s k == -1)=true:=by rw[oK hend];rfl
   have HV:Hid (txt s q (i+1)=(Tok.w 2 (aG ps),k)):=by
    show _=_;rw[<-H1.o];cases gk with
    |zero=>rfl
    |succ f=>unfold lK;rw[if_pos hend]
   go_wp2_with fail;refine cZ (ak s b (k) _ (k) _ (H2.o.1) ⟨oo,oo,oo⟩) fun nq=>?_;go_wp2_with fail;go_step3
   refine hF.go _ _ _ _ rfl ?_;clear hF;go_wp2_with fail;refine pmb (dQ ps (w.heap.size+1) v3 _ (bP HO.o _) oo oo) fun w5 hb5=>?_;have W5:Hid (aB b s (k) w w5):=(H2.o.drewN _).below hb5;have R5:Hid (gX w5 w.heap.size):=(HR.o.drewN _).below hb5;clear hb5;have r0:=R5.o.c0;have r1:=R5.o.c1;have r2:=R5.o.c2;have rf:=R5.o.f;have rl:=R5.o.lt;go_wp2_with fail;try rw[Exit.noGoto_ret]
   refine bodyPost_ret (v:=bF (Tok.w 2 (aG ps))) (by simp[results,Tryz.results178,go_sem,bF,Tok.w,r0,r1,r2];rfl) rfl ⟨?_,?_⟩
   .rw[HV.o]
   .rw[HV.o];exact((W5.o.cu hbw nl _ _).cu hbw nl _ _).cu hbw nl _ _
  .have hlt:k<s.size:=oo;have e0:(pk s k == -1)=false:=by have:=tK hlt;simp;omega
   obtain⟨f,rfl⟩:∃f,gk=f+1:=⟨gk-1,oo⟩;have kT:=H1.o;unfold lK at kT;rw[if_neg hend]at kT;by_cases hq:pk s k=q
   .have e1:(pk s k==q)=true:=by simpa using hq
    have HV:Hid (txt s q (i+1)=(Tok.w 2 (aG ps),k+1)):=by show _=_;rw[<-kT,if_pos hq]
    clear hq kT;go_wp2_with fail;refine cZ (ak s b (k) _ (k) _ (H2.o.1) ⟨oo,oo,oo⟩) fun nq=>?_;go_wp2_with fail;go_step3
    refine hF.go _ _ _ _ rfl ?_;clear hF;go_wp2_with fail;refine pmb (dQ ps (w.heap.size+1) v3 _ (eF (bP HO.o _) ((Turn.refl b _).setCell 1 _) oo) oo oo) fun w5 hb5=>?_;have W5:Hid (aB b s (k+1) w w5):=((H2.o.drewN _).iP _ (k+1) oo oo).below hb5;have R5:Hid (gX w5 w.heap.size):=((HR.o.drewN _).set oo _).below hb5;clear hb5;have r0:=R5.o.c0;have r1:=R5.o.c1;have r2:=R5.o.c2;have rf:=R5.o.f;have rl:=R5.o.lt;go_wp2_with fail;try rw[Exit.noGoto_ret]
    refine bodyPost_ret (v:=bF (Tok.w 2 (aG ps))) (by simp[results,Tryz.results178,go_sem,bF,Tok.w,r0,r1,r2];rfl) rfl ⟨?_,?_⟩
    .rw[HV.o]
    .rw[HV.o];exact((W5.o.cu hbw nl _ _).cu hbw nl _ _).cu hbw nl _ _
   .have e1:(pk s k==q)=false:=by simpa using hq
    rw[if_neg hq]at kT;by_cases h10:pk s k=10
    .have e2:(pk s k==10)=true:=by rw[h10];rfl
     have HV:Hid (txt s q (i+1)=(Tok.k 3,k)):=by show _=_;rw[<-kT,if_pos h10]
     clear hq h10 kT;have r0:=HR.o.c0;have r1:=HR.o.c1;have r2:=HR.o.c2;have rf:=HR.o.f;have rl:=HR.o.lt;go_wp2_with fail;refine cZ (ak s b (k) _ (k) _ (H2.o.1) ⟨oo,oo,oo⟩) fun nq=>?_;go_wp2_with fail;go_step3
     refine hF.go _ _ _ _ rfl ?_;clear hF;go_wp2_with fail;try rw[Exit.noGoto_ret]
     refine bodyPost_ret (v:=bF (Tok.k 3)) (by simp[results,Tryz.results178,go_sem,bF,Tok.k,r0,r1,r2];rfl) rfl ⟨?_,?_⟩
     .rw[HV.o]
     .rw[HV.o];exact(((H2.o.drewN _).cu hbw nl _ _).cu hbw nl _ _).cu hbw nl _ _
    .have e2:(pk s k==10)=false:=by simpa using h10
     rw[if_neg h10]at kT;by_cases h92:pk s k=92
     .have e3:(pk s k==92)=true:=by rw[h92];rfl
      rw[if_pos h92]at kT;by_cases hl1:s.size<=k+1
      .rw[if_pos hl1]at kT;have HV:Hid (lK s q f (k+1) (aG (ps++[ByteArray.empty]))=txt s q (i+1)):=by show _=_;rw[FD];exact kT
       clear hq h10 h92 kT;go_wp2_with fail;refine cZ (ak s b (k) _ (k) _ (H2.o.1) ⟨oo,oo,oo⟩) fun nq=>?_;go_wp2_with fail;refine pmb (IQ s b k _ (H2.o.1.drewN _) hlt hl1) fun w1 aj=>?_;have W1:Hid (aB b s (k+1) w w1):=(H2.o.drewN _).trans aj;have uS:Hid (w1.ownsRow (w.heap.size+1) 9 1 v3 ps.length (ps.map Value.string)):=eF (bP HO.o _) aj.2 oo;have R1:Hid (gX w1 w.heap.size):=(HR.o.drewN _).turn aj.2 oo;clear aj;have hw1:=W1.o.2.size;have hw2:=R1.o.lt
       go_wp2_with(at_builtin;refine wpList_append_own _ rfl _ _ 26 rfl (w.heap.size+1) 9 iS (.string ⟨#[]⟩) 1 16 Tryz.underlying26 HI.o.1 HI.o.2.1 HI.o.2.2.1 HI.o.2.2.2 rfl oo v3 ps.length (ps.map Value.string) rfl (uS.o.alloc _) ⟨w1.heap.size,0,none⟩ 1 1 [.string (ByteArray.empty)] rfl rfl (cell_one_new _ _ _) (aT _) ?_ ?_ ?_ ?_)
       .unfold maxLen;omega
       .omega
       .simp;omega
       intro v4 w2 hown2 jk _;have W2:Hid (aB b s (k+1) w w2):=(W1.o.alloc _).grown jk hbw (fun r hr=>by have:=(uS.o.lt r hr).1;omega);have FW:=hid hown2;have R2:Hid (gX w2 w.heap.size):=(R1.o.alloc _).grown jk (fun r hr=>by have:=(uS.o.lt r hr).1;omega);clear hown2 jk;go_wp2_with fail;go_roundg f;case measure=>omega
       case rel=>
        refine⟨v4,k+1,ps++[ByteArray.empty],rfl,oo,by simp;omega,?_,HV.o,?_,W2.o,R2.o⟩
        .simp[dh,total];omega
        .simpa using FW.o
      .rw[if_neg hl1]at kT;by_cases hln:pk s (k+1)=10
       .rw[if_pos hln]at kT;have HV:Hid (lK s q f (k+2) (aG (ps++[ByteArray.empty]))=txt s q (i+1)):=by show _=_;rw[FD];exact kT
        have HL:=hid hln;clear hq h10 h92 kT hln;go_wp2_with fail;refine cZ (ak s b (k) _ (k) _ (H2.o.1) ⟨oo,oo,oo⟩) fun nq=>?_;go_wp2_with fail;refine pmb (F5 s b k _ (H2.o.1.drewN _) oo HL.o) fun w1 aj=>?_;have W1:Hid (aB b s (k+2) w w1):=(H2.o.drewN _).trans aj;have uS:Hid (w1.ownsRow (w.heap.size+1) 9 1 v3 ps.length (ps.map Value.string)):=eF (bP HO.o _) aj.2 oo;have R1:Hid (gX w1 w.heap.size):=(HR.o.drewN _).turn aj.2 oo;clear aj;have hw1:=W1.o.2.size;have hw2:=R1.o.lt
        go_wp2_with(at_builtin;refine wpList_append_own _ rfl _ _ 26 rfl (w.heap.size+1) 9 iS (.string ⟨#[]⟩) 1 16 Tryz.underlying26 HI.o.1 HI.o.2.1 HI.o.2.2.1 HI.o.2.2.2 rfl oo v3 ps.length (ps.map Value.string) rfl (uS.o.alloc _) ⟨w1.heap.size,0,none⟩ 1 1 [.string (ByteArray.empty)] rfl rfl (cell_one_new _ _ _) (aT _) ?_ ?_ ?_ ?_)
        .unfold maxLen;omega
        .omega
        .simp;omega
        intro v4 w2 hown2 jk _;have W2:Hid (aB b s (k+2) w w2):=(W1.o.alloc _).grown jk hbw (fun r hr=>by have:=(uS.o.lt r hr).1;omega);have FW:=hid hown2;have R2:Hid (gX w2 w.heap.size):=(R1.o.alloc _).grown jk (fun r hr=>by have:=(uS.o.lt r hr).1;omega);clear hown2 jk;go_wp2_with fail;go_roundg f;case measure=>omega
        case rel=>
         refine⟨v4,k+2,ps++[ByteArray.empty],rfl,oo,by simp;omega,?_,HV.o,?_,W2.o,R2.o⟩
         .simp[dh,total];omega
         .simpa using FW.o
       .rw[if_neg hln]at kT;have hge:=uX hlt;have hgt:=oL s k;have HV:Hid (lK s q f (esc s k).2 (aG (ps++[(esc s k).1]))=txt s q (i+1)):=by show _=_;rw[dw];exact kT
        have hsz:Hid ((esc s k).1.size=1):=kN;have HL:=hid hln;clear hq h10 h92 kT hln;go_wp2_with fail;refine cZ (ak s b (k) _ (k) _ (H2.o.1) ⟨oo,oo,oo⟩) fun nq=>?_;go_wp2_with fail;refine pmb (IU s b k _ (H2.o.1.drewN _) oo HL.o) fun w1 aj=>?_;have W1:Hid (aB b s ((esc s k).2) w w1):=(H2.o.drewN _).trans aj;have uS:Hid (w1.ownsRow (w.heap.size+1) 9 1 v3 ps.length (ps.map Value.string)):=eF (bP HO.o _) aj.2 oo;have R1:Hid (gX w1 w.heap.size):=(HR.o.drewN _).turn aj.2 oo;clear aj;have hw1:=W1.o.2.size;have hw2:=R1.o.lt
        go_wp2_with(at_builtin;refine wpList_append_own _ rfl _ _ 26 rfl (w.heap.size+1) 9 iS (.string ⟨#[]⟩) 1 16 Tryz.underlying26 HI.o.1 HI.o.2.1 HI.o.2.2.1 HI.o.2.2.2 rfl oo v3 ps.length (ps.map Value.string) rfl (uS.o.alloc _) ⟨w1.heap.size,0,none⟩ 1 1 [.string ((esc s k).1)] rfl rfl (cell_one_new _ _ _) (aT _) ?_ ?_ ?_ ?_)
        .unfold maxLen;omega
        .omega
        .simp;omega
        intro v4 w2 hown2 jk _;have W2:Hid (aB b s ((esc s k).2) w w2):=(W1.o.alloc _).grown jk hbw (fun r hr=>by have:=(uS.o.lt r hr).1;omega);have FW:=hid hown2;have R2:Hid (gX w2 w.heap.size):=(R1.o.alloc _).grown jk (fun r hr=>by have:=(uS.o.lt r hr).1;omega);clear hown2 jk;go_wp2_with fail;go_roundg f;case measure=>omega
        case rel=>
         refine⟨v4,(esc s k).2,ps++[(esc s k).1],rfl,oo,by simp;omega,?_,HV.o,?_,W2.o,R2.o⟩
         .have:=hsz.o;simp[dh,total,this];omega
         .simpa using FW.o
     .have e3:(pk s k==92)=false:=by simpa using h92
      rw[if_neg h92]at kT;have HV:Hid (lK s q f (k+1) (aG (ps++[one s k]))=txt s q (i+1)):=by show _=_;rw[dw];exact kT
      have hsz:Hid ((one s k).size=1):=iQ hlt;clear hq h10 h92 kT;go_wp2_with fail;refine cZ (ak s b (k) _ (k) _ (H2.o.1) ⟨oo,oo,oo⟩) fun nq=>?_;go_wp2_with fail;refine pmb (Ap s b k _ (H2.o.1.drewN _) hlt) fun w1 aj=>?_;have W1:Hid (aB b s (k+1) w w1):=(H2.o.drewN _).trans aj;have uS:Hid (w1.ownsRow (w.heap.size+1) 9 1 v3 ps.length (ps.map Value.string)):=eF (bP HO.o _) aj.2 oo;have R1:Hid (gX w1 w.heap.size):=(HR.o.drewN _).turn aj.2 oo;clear aj;have hw1:=W1.o.2.size;have hw2:=R1.o.lt
      go_wp2_with(at_builtin;refine wpList_append_own _ rfl _ _ 26 rfl (w.heap.size+1) 9 iS (.string ⟨#[]⟩) 1 16 Tryz.underlying26 HI.o.1 HI.o.2.1 HI.o.2.2.1 HI.o.2.2.2 rfl oo v3 ps.length (ps.map Value.string) rfl (uS.o.alloc _) ⟨w1.heap.size,0,none⟩ 1 1 [.string (one s k)] rfl rfl (cell_one_new _ _ _) (aT _) ?_ ?_ ?_ ?_)
      .unfold maxLen;omega
      .omega
      .simp;omega
      intro v4 w2 hown2 jk _;have W2:Hid (aB b s (k+1) w w2):=(W1.o.alloc _).grown jk hbw (fun r hr=>by have:=(uS.o.lt r hr).1;omega);have FW:=hid hown2;have R2:Hid (gX w2 w.heap.size):=(R1.o.alloc _).grown jk (fun r hr=>by have:=(uS.o.lt r hr).1;omega);clear hown2 jk;go_wp2_with fail;go_roundg f;case measure=>omega
      case rel=>
       refine⟨v4,k+1,ps++[one s k],rfl,oo,by simp;omega,?_,HV.o,?_,W2.o,R2.o⟩
       .have:=hsz.o;simp[dh,total,this];omega
       .simpa using FW.o
theorem zW(s:BY)(b i:Nat)(w:WD)(h:Sc w b s i):
  Calls prog 292 #[.pointer (some ⟨b,0,none⟩)] w fun e w'=>e=.returned (.tuple #[])/\aB b s (bad s i) w w':=by
 have W:Hid (aB b s i w w):=aB.refl h;clear h;go_in;go_wp2_with fail;refine ji (fun Q' hF=>?_);go_wp2_with fail;go_loopg[] s.size (fun g wr=>∃k:Nat,s.size<=k+g/\Aside (Ed s g k=bad s i/\aB b s k w wr));case atStart=>exact⟨i,oo,rfl,W.o⟩
 case round=>
  obtain⟨k,hk,hA⟩:=hrel;have H1:=hid hA.o.1;have H2:=hid hA.o.2;clear hA;have c02:=H2.o.1.c0;have c12:=H2.o.1.c1;have cf2:=H2.o.1.f1;have cl2:=H2.o.1.lt;have cs2:=H2.o.1.len;have ce2:=H2.o.1.le;by_cases hend:s.size<=k
  .have e0:(pk s k == -1)=true:=by rw[oK hend];rfl
   have HV:Hid (bad s i=k):=by
    show _=_;rw[<-H1.o];cases gk with
    |zero=>rfl
    |succ f=>unfold Ed;rw[if_pos hend]
   go_wp2_with fail;refine cZ (ak s b (k) _ (k) _ (H2.o.1) ⟨oo,oo,oo⟩) fun nq=>?_;go_wp2_with fail;go_step3
   refine hF.go _ _ _ _ rfl ?_;clear hF;go_wp2
   simp only[Exit.noGoto];go_end0
   refine⟨rfl,?_⟩;rw[HV.o];exact H2.o.drewN _
  .have hlt:k<s.size:=oo;have e0:(pk s k == -1)=false:=by have:=tK hlt;simp;omega
   obtain⟨f,rfl⟩:∃f,gk=f+1:=⟨gk-1,oo⟩;have kT:=H1.o;unfold Ed at kT;rw[if_neg hend]at kT;by_cases h41:pk s k=41
   .have e1:(pk s k==41)=true:=by rw[h41];rfl
    have HV:Hid (bad s i=k+1):=by show _=_;rw[<-kT,if_pos h41]
    clear h41 kT;go_wp2_with fail;refine cZ (ak s b (k) _ (k) _ (H2.o.1) ⟨oo,oo,oo⟩) fun nq=>?_;go_wp2_with fail;go_step3
    refine hF.go _ _ _ _ rfl ?_;clear hF;go_wp2
    simp only[Exit.noGoto];go_end0
    refine⟨rfl,?_⟩;rw[HV.o];exact(H2.o.drewN _).iP _ (k+1) oo oo
   .have e1:(pk s k==41)=false:=by simpa using h41
    rw[if_neg h41]at kT;clear h41;cases he:kY s k
    .rw[if_neg (by simp[he])]at kT;have HV:=hid kT;clear kT;go_wp2_with fail;refine cZ (ak s b (k) _ (k) _ (H2.o.1) ⟨oo,oo,oo⟩) fun nq=>?_;go_wp2_with fail;refine cZ (fA s b (k) _ (k) _ (H2.o.1.drewN _) ⟨oo,oo,oo⟩) fun nq=>?_;go_wp2_with fail;go_roundg f;case measure=>omega
     case rel=>exact⟨k+1,oo,HV.o,(H2.o.drewN _).iP _ (k+1) oo oo⟩
    .rw[if_pos he]at kT;have HV:=hid kT;clear kT;have hge:=uX hlt;have hgt:=oL s k;go_wp2_with fail;refine cZ (ak s b (k) _ (k) _ (H2.o.1) ⟨oo,oo,oo⟩) fun nq=>?_;go_wp2_with fail;refine cZ (fA s b (k) _ (k) _ (H2.o.1.drewN _) ⟨oo,oo,oo⟩) fun nq=>?_;go_wp2_with fail;refine pmb (BU s b k _ (H2.o.1.drewN _) hlt) fun w1 aj=>?_;have W1:Hid (aB b s (esc s k).2 w w1):=(H2.o.drewN _).trans aj;clear aj;go_wp2_with fail;go_roundg f;case measure=>omega
     case rel=>exact⟨(esc s k).2,oo,HV.o,W1.o⟩
theorem xX(s:BY)(b i:Nat)(w:WD)(h:Sc w b s i):
  Calls prog 244 #[.pointer (some ⟨b,0,none⟩)] w fun e w'=>e=.returned (.bool (dD (pk s (Sp.blk s i))))/\aB b s i w w':=by
 have W:Hid (aB b s i w w):=aB.refl h;have hbw:=h.lt;have hp:=h.pos;have S:Hid (Sc (w.alloc (.cells #[.string s,.int .i64 (i:Int)] 201 (0,0))) w.heap.size s i):=
  ⟨heap_alloc_new w _,by obtain⟨m,hm⟩:=h.glob;exact⟨m,by rw[<-hm];exact World.cell?_of_block (w:=w) (Below.heap_alloc _ _ _ (by show 0<w.heap.size;omega))⟩,oo,h.len,h.le⟩
 have h0:=h.c0;have h1:=h.c1;clear h;go_in;go_wp2_with fail;refine pmb (lg s w.heap.size i _ S.o) fun w1 aj=>?_;have S1:=hid aj.1;have T1:=hid aj.2;clear aj;go_wp2_with fail;refine cZ (ak s w.heap.size (Sp.blk s i) _ (Sp.blk s i) _ S1.o ⟨oo,oo,oo⟩) fun nq=>?_;go_wp2_with fail;refine jA (fH _ _) ?_;go_wp2_with fail;go_ret;have hb:Below w.heap.size w w1:=((Below.refl _ w).alloc nl _).trans (T1.o.below nl Aa);exact⟨rfl,(W.o.below hb).drewN _⟩
theorem ajg(s:BY)(b i:Nat)(w:WD)(h:Sc w b s i):
  Calls prog 245 #[.pointer (some ⟨b,0,none⟩)] w fun e w'=>e=.returned (bF (link s (Sp.blk s i)).1)/\aB b s (link s (Sp.blk s i)).2 w w':=by
 have W:=aB.nh h;have hbw:b<w.heap.size:=h.lt;have hs:s.size<=600:=h.len;clear h;obtain⟨iS,wK⟩:=info_str;have HI:=hid wK;clear wK;go_in;go_wp2_with fail;refine ji (fun Q' hF=>?_);go_wp2_with fail;refine pmb (lg s b i _ W.o.1) fun w0 aj=>?_;have W0:=hid (W.o.trans aj);have R0:Hid (gX w0 w.heap.size):=(gX.new w).turn aj.2 oo;clear aj;go_wp2_with fail;go_loopg[3] s.size (fun g v3 wr=>∃(v:Av) (k:Nat) (ps:List BY),v=v3/\s.size<=k+g/\ps.length<=k/\total ps<=k/\Aside (jd s g k (aG ps)=link s (Sp.blk s i)/\wr.ownsRow (w.heap.size+1) 9 1 v ps.length (ps.map Value.string)/\aB b s k w wr/\gX wr w.heap.size))
 case atStart=>exact⟨_,Sp.blk s i,[],rfl,oo,by simp,by simp[total],rfl,World.ownsRow_nil _ _ _ _,W0.o,R0.o⟩
 case round=>
  obtain⟨v3,k,ps,rfl,hk,hpl,hpt,hA⟩:=hrel;have H1:=hid hA.o.1;have HO:=hid hA.o.2.1;have H2:=hid hA.o.2.2.1;have HR:=hid hA.o.2.2.2;clear hA;have c02:=H2.o.1.c0;have c12:=H2.o.1.c1;have cf2:=H2.o.1.f1;have cl2:=H2.o.1.lt;have cs2:=H2.o.1.len;have ce2:=H2.o.1.le;by_cases hend:s.size<=k
  .have e0:(pk s k == -1)=true:=by rw[oK hend];rfl
   have HV:Hid (link s (Sp.blk s i)=(Tok.w 12 (aG ps),k)):=by
    show _=_;rw[<-H1.o];cases gk with
    |zero=>rfl
    |succ f=>unfold jd;rw[if_pos hend]
   go_wp2_with fail;refine cZ (ak s b (k) _ (k) _ (H2.o.1) ⟨oo,oo,oo⟩) fun nq=>?_;go_wp2_with fail;go_step3
   refine hF.go _ _ _ _ rfl ?_;clear hF;go_wp2_with fail;refine pmb (dQ ps (w.heap.size+1) v3 _ (bP HO.o _) oo oo) fun w5 hb5=>?_;have W5:Hid (aB b s (k) w w5):=(H2.o.drewN _).below hb5;have R5:Hid (gX w5 w.heap.size):=(HR.o.drewN _).below hb5;clear hb5;have r0:=R5.o.c0;have r1:=R5.o.c1;have r2:=R5.o.c2;have rf:=R5.o.f;have rl:=R5.o.lt;go_wp2_with fail;try rw[Exit.noGoto_ret]
   refine bodyPost_ret (v:=bF (Tok.w 12 (aG ps))) (by simp[results,Tryz.results245,go_sem,bF,Tok.w,r0,r1,r2];rfl) rfl ⟨?_,?_⟩
   .rw[HV.o]
   .rw[HV.o];exact((W5.o.cu hbw nl _ _).cu hbw nl _ _).cu hbw nl _ _
  .have hlt:k<s.size:=oo;have e0:(pk s k == -1)=false:=by have:=tK hlt;simp;omega
   obtain⟨f,rfl⟩:∃f,gk=f+1:=⟨gk-1,oo⟩;have kT:=H1.o;unfold jd at kT;rw[if_neg hend]at kT;by_cases h41:pk s k=41
   .have e1:(pk s k==41)=true:=by rw[h41];rfl
    have HV:Hid (link s (Sp.blk s i)=(Tok.w 12 (aG ps),k+1)):=by show _=_;rw[<-kT,if_pos h41]
    clear h41 kT;go_wp2_with fail;refine cZ (ak s b (k) _ (k) _ (H2.o.1) ⟨oo,oo,oo⟩) fun nq=>?_;go_wp2_with fail;go_step3
    refine hF.go _ _ _ _ rfl ?_;clear hF;go_wp2_with fail;refine pmb (dQ ps (w.heap.size+1) v3 _ (eF (bP HO.o _) ((Turn.refl b _).setCell 1 _) oo) oo oo) fun w5 hb5=>?_;have W5:Hid (aB b s (k+1) w w5):=((H2.o.drewN _).iP _ (k+1) oo oo).below hb5;have R5:Hid (gX w5 w.heap.size):=((HR.o.drewN _).set oo _).below hb5;clear hb5;have r0:=R5.o.c0;have r1:=R5.o.c1;have r2:=R5.o.c2;have rf:=R5.o.f;have rl:=R5.o.lt;go_wp2_with fail;try rw[Exit.noGoto_ret]
    refine bodyPost_ret (v:=bF (Tok.w 12 (aG ps))) (by simp[results,Tryz.results245,go_sem,bF,Tok.w,r0,r1,r2];rfl) rfl ⟨?_,?_⟩
    .rw[HV.o]
    .rw[HV.o];exact((W5.o.cu hbw nl _ _).cu hbw nl _ _).cu hbw nl _ _
   .have e1:(pk s k==41)=false:=by simpa using h41
    rw[if_neg h41]at kT;clear h41;cases hbl:aO (pk s k)
    .rw[if_neg (by simp[hbl])]at kT;cases he:kY s k
     .rw[if_neg (by simp[he])]at kT;cases hsp:Eb (pk s k)
      .rw[if_neg (by simp[hsp])]at kT;have HV:Hid (jd s f (k+1) (aG (ps++[one s k]))=link s (Sp.blk s i)):=by show _=_;rw[dw];exact kT
       have hsz:Hid ((one s k).size=1):=iQ hlt;clear kT;go_wp2_with fail;refine cZ (ak s b (k) _ (k) _ (H2.o.1) ⟨oo,oo,oo⟩) fun nq=>?_;go_wp2_with fail;refine jA (aW _ _) ?_;go_wp2_with fail;refine cZ (fA s b (k) _ (k) _ (H2.o.1.drewN _) ⟨oo,oo,oo⟩) fun nq=>?_;go_wp2_with fail;refine jA (BI _ _) ?_;go_wp2_with fail;refine pmb (Ap s b k _ (H2.o.1.drewN _) hlt) fun w1 aj=>?_;have W1:Hid (aB b s (k+1) w w1):=(H2.o.drewN _).trans aj;have uS:Hid (w1.ownsRow (w.heap.size+1) 9 1 v3 ps.length (ps.map Value.string)):=eF (bP HO.o _) aj.2 oo;have R1:Hid (gX w1 w.heap.size):=(HR.o.drewN _).turn aj.2 oo;clear aj;have hw1:=W1.o.2.size;have hw2:=R1.o.lt
       go_wp2_with(at_builtin;refine wpList_append_own _ rfl _ _ 26 rfl (w.heap.size+1) 9 iS (.string ⟨#[]⟩) 1 16 Tryz.underlying26 HI.o.1 HI.o.2.1 HI.o.2.2.1 HI.o.2.2.2 rfl oo v3 ps.length (ps.map Value.string) rfl (uS.o.alloc _) ⟨w1.heap.size,0,none⟩ 1 1 [.string (one s k)] rfl rfl (cell_one_new _ _ _) (aT _) ?_ ?_ ?_ ?_)
       .unfold maxLen;omega
       .omega
       .simp;omega
       intro v4 w2 hown2 jk _;have W2:Hid (aB b s (k+1) w w2):=(W1.o.alloc _).grown jk hbw (fun r hr=>by have:=(uS.o.lt r hr).1;omega);have FW:=hid hown2;have R2:Hid (gX w2 w.heap.size):=(R1.o.alloc _).grown jk (fun r hr=>by have:=(uS.o.lt r hr).1;omega);clear hown2 jk;go_wp2_with fail;go_roundg f;case measure=>omega
       case rel=>
        refine⟨v4,k+1,ps++[one s k],rfl,oo,by simp;omega,?_,HV.o,?_,W2.o,R2.o⟩
        .have:=hsz.o;simp[dh,total,this];omega
        .simpa using FW.o
      .rw[if_pos hsp]at kT;have HV:=hid kT.symm;clear kT;go_wp2_with fail;refine cZ (ak s b (k) _ (k) _ (H2.o.1) ⟨oo,oo,oo⟩) fun nq=>?_;go_wp2_with fail;refine jA (aW _ _) ?_;go_wp2_with fail;refine cZ (fA s b (k) _ (k) _ (H2.o.1.drewN _) ⟨oo,oo,oo⟩) fun nq=>?_;go_wp2_with fail;refine jA (BI _ _) ?_;go_wp2_with fail;go_step3
       refine hF.go _ _ _ _ rfl ?_;clear hF;go_wp2_with fail;refine pmb (zW s b (k) _ ((H2.o.drewN _)).1) fun w5 aj=>?_;have W5:Hid (aB b s (bad s (k)) w w5):=((H2.o.drewN _)).trans aj;have R5:Hid (gX w5 w.heap.size):=((HR.o.drewN _)).turn aj.2 oo;clear aj;have r0:=R5.o.c0;have r1:=R5.o.c1;have r2:=R5.o.c2;have rf:=R5.o.f;have rl:=R5.o.lt;go_wp2_with fail;try rw[Exit.noGoto_ret]
       refine bodyPost_ret (v:=bF (Tok.k 13)) (by simp[results,Tryz.results245,go_sem,bF,Tok.k,r0,r1,r2];rfl) rfl ⟨?_,?_⟩
       .rw[HV.o]
       .rw[HV.o];exact((W5.o.cu hbw nl _ _).cu hbw nl _ _).cu hbw nl _ _
     .rw[if_pos he]at kT;have hge:=uX hlt;have hgt:=oL s k;have HV:Hid (jd s f (esc s k).2 (aG (ps++[(esc s k).1]))=link s (Sp.blk s i)):=by show _=_;rw[dw];exact kT
      have hsz:Hid ((esc s k).1.size=1):=kN;clear kT;go_wp2_with fail;refine cZ (ak s b (k) _ (k) _ (H2.o.1) ⟨oo,oo,oo⟩) fun nq=>?_;go_wp2_with fail;refine jA (aW _ _) ?_;go_wp2_with fail;refine cZ (fA s b (k) _ (k) _ (H2.o.1.drewN _) ⟨oo,oo,oo⟩) fun nq=>?_;go_wp2_with fail;refine pmb (BU s b k _ (H2.o.1.drewN _) hlt) fun w1 aj=>?_;have W1:Hid (aB b s ((esc s k).2) w w1):=(H2.o.drewN _).trans aj;have uS:Hid (w1.ownsRow (w.heap.size+1) 9 1 v3 ps.length (ps.map Value.string)):=eF (bP HO.o _) aj.2 oo;have R1:Hid (gX w1 w.heap.size):=(HR.o.drewN _).turn aj.2 oo;clear aj;have hw1:=W1.o.2.size;have hw2:=R1.o.lt
      go_wp2_with(at_builtin;refine wpList_append_own _ rfl _ _ 26 rfl (w.heap.size+1) 9 iS (.string ⟨#[]⟩) 1 16 Tryz.underlying26 HI.o.1 HI.o.2.1 HI.o.2.2.1 HI.o.2.2.2 rfl oo v3 ps.length (ps.map Value.string) rfl (uS.o.alloc _) ⟨w1.heap.size,0,none⟩ 1 1 [.string ((esc s k).1)] rfl rfl (cell_one_new _ _ _) (aT _) ?_ ?_ ?_ ?_)
      .unfold maxLen;omega
      .omega
      .simp;omega
      intro v4 w2 hown2 jk _;have W2:Hid (aB b s ((esc s k).2) w w2):=(W1.o.alloc _).grown jk hbw (fun r hr=>by have:=(uS.o.lt r hr).1;omega);have FW:=hid hown2;have R2:Hid (gX w2 w.heap.size):=(R1.o.alloc _).grown jk (fun r hr=>by have:=(uS.o.lt r hr).1;omega);clear hown2 jk;go_wp2_with fail;go_roundg f;case measure=>omega
      case rel=>
       refine⟨v4,(esc s k).2,ps++[(esc s k).1],rfl,oo,by simp;omega,?_,HV.o,?_,W2.o,R2.o⟩
       .have:=hsz.o;simp[dh,total,this];omega
       .simpa using FW.o
    .rw[if_pos hbl]at kT;have hbg:=Vp hbl;have ajh:=Oh (s:=s) (i:=k) oo;generalize hkb:Sp.blk s k=kb at *;have HKB:=hid hkb;clear hkb;by_cases hbe:s.size<=kb
     .have hnone:(pk s kb != -1)=false:=by rw[oK hbe];rfl
      have ak8:(pk s kb != 41)=true:=by rw[oK hbe];rfl
      rw[if_pos hbe]at kT;have HV:Hid (jd s f kb (aG ps)=link s (Sp.blk s i)):=by
       show _=_;rw[<-kT];cases f with
       |zero=>rfl
       |succ f'=>unfold jd;rw[if_pos hbe]
      clear kT;go_wp2_with fail;refine cZ (ak s b (k) _ (k) _ (H2.o.1) ⟨oo,oo,oo⟩) fun nq=>?_;go_wp2_with fail;refine jA (aW _ _) ?_;go_wp2_with fail;refine pmb (lg s b k _ (H2.o.1.drewN _)) fun w1 aj=>?_;have W1:Hid (aB b s kb w w1):=by have:=(H2.o.drewN _).trans aj;rw[HKB.o]at this;exact this
      have uS:Hid (w1.ownsRow (w.heap.size+1) 9 1 v3 ps.length (ps.map Value.string)):=eF (bP HO.o _) aj.2 oo;have R1:Hid (gX w1 w.heap.size):=(HR.o.drewN _).turn aj.2 oo;clear aj;go_wp2_with fail;refine cZ (ak s b (kb) _ (kb) _ (W1.o.1) ⟨oo,oo,oo⟩) fun nq=>?_;go_wp2_with fail;refine cZ (ak s b (kb) _ (kb) _ (W1.o.1.drewN _) ⟨oo,oo,oo⟩) fun nq=>?_;go_wp2_with fail;go_roundg f;case measure=>omega
      case rel=>exact⟨v3,kb,ps,rfl,oo,oo,oo,HV.o,bP uS.o _,W1.o.drewN _,R1.o.drewN _⟩
     .have hlb:kb<s.size:=oo;have hnone:(pk s kb != -1)=true:=by have:=tK hlb;simp;omega
      rw[if_neg hbe]at kT;by_cases V7:pk s kb=41
      .have ak8:(pk s kb != 41)=false:=by rw[V7];rfl
       rw[if_pos V7]at kT;have HV:Hid (jd s f kb (aG ps)=link s (Sp.blk s i)):=by show _=_;rw[<-kT];obtain⟨f',rfl⟩:∃f',f=f'+1:=⟨f-1,oo⟩;unfold jd;rw[if_neg hbe,if_pos V7]
       clear kT V7;go_wp2_with fail;refine cZ (ak s b (k) _ (k) _ (H2.o.1) ⟨oo,oo,oo⟩) fun nq=>?_;go_wp2_with fail;refine jA (aW _ _) ?_;go_wp2_with fail;refine pmb (lg s b k _ (H2.o.1.drewN _)) fun w1 aj=>?_;have W1:Hid (aB b s kb w w1):=by have:=(H2.o.drewN _).trans aj;rw[HKB.o]at this;exact this
       have uS:Hid (w1.ownsRow (w.heap.size+1) 9 1 v3 ps.length (ps.map Value.string)):=eF (bP HO.o _) aj.2 oo;have R1:Hid (gX w1 w.heap.size):=(HR.o.drewN _).turn aj.2 oo;clear aj;go_wp2_with fail;refine cZ (ak s b (kb) _ (kb) _ (W1.o.1) ⟨oo,oo,oo⟩) fun nq=>?_;go_wp2_with fail;go_roundg f;case measure=>omega
       case rel=>exact⟨v3,kb,ps,rfl,oo,oo,oo,HV.o,bP uS.o _,W1.o.drewN _,R1.o.drewN _⟩
      .have ak8:(pk s kb != 41)=true:=by simpa using V7
       rw[if_neg V7]at kT;have HV:=hid kT.symm;clear kT V7;go_wp2_with fail;refine cZ (ak s b (k) _ (k) _ (H2.o.1) ⟨oo,oo,oo⟩) fun nq=>?_;go_wp2_with fail;refine jA (aW _ _) ?_;go_wp2_with fail;refine pmb (lg s b k _ (H2.o.1.drewN _)) fun w1 aj=>?_;have W1:Hid (aB b s kb w w1):=by have:=(H2.o.drewN _).trans aj;rw[HKB.o]at this;exact this
       have uS:Hid (w1.ownsRow (w.heap.size+1) 9 1 v3 ps.length (ps.map Value.string)):=eF (bP HO.o _) aj.2 oo;have R1:Hid (gX w1 w.heap.size):=(HR.o.drewN _).turn aj.2 oo;clear aj;go_wp2_with fail;refine cZ (ak s b (kb) _ (kb) _ (W1.o.1) ⟨oo,oo,oo⟩) fun nq=>?_;go_wp2_with fail;refine cZ (ak s b (kb) _ (kb) _ (W1.o.1.drewN _) ⟨oo,oo,oo⟩) fun nq=>?_;go_wp2_with fail;go_step3
       refine hF.go _ _ _ _ rfl ?_;clear hF;go_wp2_with fail;refine pmb (zW s b (kb) _ ((W1.o.drewN _)).1) fun w5 aj=>?_;have W5:Hid (aB b s (bad s (kb)) w w5):=((W1.o.drewN _)).trans aj;have R5:Hid (gX w5 w.heap.size):=((R1.o.drewN _)).turn aj.2 oo;clear aj;have r0:=R5.o.c0;have r1:=R5.o.c1;have r2:=R5.o.c2;have rf:=R5.o.f;have rl:=R5.o.lt;go_wp2_with fail;try rw[Exit.noGoto_ret]
       refine bodyPost_ret (v:=bF (Tok.k 13)) (by simp[results,Tryz.results245,go_sem,bF,Tok.k,r0,r1,r2];rfl) rfl ⟨?_,?_⟩
       .rw[HV.o]
       .rw[HV.o];exact((W5.o.cu hbw nl _ _).cu hbw nl _ _).cu hbw nl _ _
theorem AP(s:BY):∀f i acc,i<=s.size->(iK s f i acc).1.size+i<=acc.size+(iK s f i acc).2
 |0,i,acc,h=>Nat.le_refl _
 |f+1,i,acc,h=>by
  unfold iK;split
  .rename_i h1;have hl:=dY (uV h1);have:=AP s f (i+1) (acc++one s i) oo;have h2:=iQ hl;rw[ByteArray.size_append,h2]at this;omega
  .split
   .rename_i h1;have hl:=Oc h1;have:=AP s f (esc s i).2 (acc++(esc s i).1) (uX hl);have h2:=kN (s:=s) (i:=i);have h3:=oL s i;rw[ByteArray.size_append,h2]at this;omega
   .exact Nat.le_refl _
theorem aat{s:BY}{i:Nat}(h:i<=s.size):(name s i).1.size<=s.size:=by have h1:=AP s s.size i ByteArray.empty h;have h2:=yV h;have h3:ByteArray.empty.size=0:=rfl;unfold name at h2⊢;omega
theorem Nj(x:BY):(x.toList==[117,114,108])=decide (x=url):=by
 rw[Bool.eq_iff_iff];simp only[beq_iff_eq,decide_eq_true_eq];rw[ByteArray.toList_eq];constructor
 .intro h;obtain⟨⟨l⟩⟩:=x;simp only at h;rw[h];rfl
 .intro h;rw[h];rfl
theorem OE(s:BY)(b i:Nat)(w:WD)(h:Sc w b s i):
  Calls prog 184 #[.pointer (some ⟨b,0,none⟩)] w fun e w'=>e=.returned (bF (named s i).1)/\aB b s (named s i).2 w w':=by
 have W:=aB.nh h;have R:=gX.nh w;have hbw:b<w.heap.size:=h.lt;have hs:s.size<=600:=h.len;clear h;have hns:=aat W.o.1.le;have hnl:=yV W.o.1.le;obtain⟨x,k,HX⟩:∃x k,Hid (name s i=(x,k)):=⟨_,_,rfl⟩;have ano:x.size<=s.size:=by have:=HX.o;rw[this]at hns;exact hns
 have anp:k<=s.size:=by have:=HX.o;rw[this]at hnl;exact hnl
 clear hns hnl;by_cases Gt:pk s k=40
 .have e0:(pk s k != 40)=false:=by rw[Gt];rfl
  have hlt:k<s.size:=dY oo;by_cases hu:small x=url
  .have eu:((small x).toList==[117,114,108])=true:=by rw[Nj];simp[hu]
   cases hq:dD (pk s (Sp.blk s (k+1)))
   .have HV:Hid (named s i=link s (Sp.blk s (k+1))):=by
     show _=_;unfold named;rw[HX.o];dsimp only;rw[if_pos Gt,if_pos ⟨hu,hq⟩]
    clear Gt hu;go_in;go_wp2_with fail;refine(Ar s b i _ W.o.1).mono ?_;rw[HX.o];rintro e w1 ⟨rfl,aj⟩;have W1:=hid (W.o.trans aj);have R1:=hid (R.o.turn aj.2 oo);clear aj;have c01:=W1.o.1.c0;have c11:=W1.o.1.c1;have cf1:=W1.o.1.f1;have cl1:=W1.o.1.lt;have cs1:=W1.o.1.len;have ce1:=W1.o.1.le;go_wp2_with fail;refine cZ (ak s b (k) _ (k) _ (W1.o.1) ⟨oo,oo,oo⟩) fun nq=>?_;go_wp2_with fail;refine pmb (nH x _ oo) fun w2 hb2=>?_;have W2:Hid (aB b s (k+1) w w2):=((W1.o.drewN _).iP _ (k+1) oo oo).below hb2;have R2:Hid (gX w2 w.heap.size):=((R1.o.drewN _).set oo _).below hb2;clear hb2;go_wp2_with fail;refine pmb (xX s b (k+1) _ W2.o.1) fun w3 aj=>?_;have W3:=hid (W2.o.trans aj)
    have R3:=hid (R2.o.turn aj.2 oo);clear aj;go_wp2_with fail;refine pmb (ajg s b (k+1) _ W3.o.1) fun w4 aj=>?_;have W4:=hid (W3.o.trans aj);have R4:=hid (R3.o.turn aj.2 oo);clear aj;have r0:=R4.o.c0;have r1:=R4.o.c1;have r2:=R4.o.c2;have rf:=R4.o.f;have rl:=R4.o.lt;unfold bF;go_wp2_with fail;refine bodyPost_ret (v:=bF (link s (Sp.blk s (k+1))).1) (by simp[results,Tryz.results184,go_sem,bF,r0,r1,r2]) rfl ⟨?_,?_⟩
    .rw[HV.o]
    .rw[HV.o];exact((W4.o.cu hbw nl _ _).cu hbw nl _ _).cu hbw nl _ _
   .have HV:Hid (named s i=(Tok.w 11 x,k+1)):=by
     show _=_;unfold named;rw[HX.o];dsimp only;rw[if_pos Gt,if_neg (by simp[hq])]
    clear Gt hu;go_in;go_wp2_with fail;refine(Ar s b i _ W.o.1).mono ?_;rw[HX.o];rintro e w1 ⟨rfl,aj⟩;have W1:=hid (W.o.trans aj);have R1:=hid (R.o.turn aj.2 oo);clear aj;have c01:=W1.o.1.c0;have c11:=W1.o.1.c1;have cf1:=W1.o.1.f1;have cl1:=W1.o.1.lt;have cs1:=W1.o.1.len;have ce1:=W1.o.1.le;go_wp2_with fail;refine cZ (ak s b (k) _ (k) _ (W1.o.1) ⟨oo,oo,oo⟩) fun nq=>?_;go_wp2_with fail;refine pmb (nH x _ oo) fun w2 hb2=>?_;have W2:Hid (aB b s (k+1) w w2):=((W1.o.drewN _).iP _ (k+1) oo oo).below hb2;have R2:Hid (gX w2 w.heap.size):=((R1.o.drewN _).set oo _).below hb2;clear hb2;go_wp2_with fail;refine pmb (xX s b (k+1) _ W2.o.1) fun w3 aj=>?_;have W3:=hid (W2.o.trans aj)
    have R3:=hid (R2.o.turn aj.2 oo);clear aj;have r0:=R3.o.c0;have r1:=R3.o.c1;have r2:=R3.o.c2;have rf:=R3.o.f;have rl:=R3.o.lt;go_wp2_with fail;refine bodyPost_ret (v:=bF (Tok.w 11 x)) (by simp[results,Tryz.results184,go_sem,bF,Tok.w,r0,r1,r2];rfl) rfl ⟨?_,?_⟩
    .rw[HV.o]
    .rw[HV.o];exact((W3.o.cu hbw nl _ _).cu hbw nl _ _).cu hbw nl _ _
  .have eu:((small x).toList==[117,114,108])=false:=by rw[Nj];simp[hu]
   have HV:Hid (named s i=(Tok.w 11 x,k+1)):=by show _=_;unfold named;rw[HX.o];dsimp only;rw[if_pos Gt,if_neg (by simp[hu])]
   clear Gt hu;go_in;go_wp2_with fail;refine(Ar s b i _ W.o.1).mono ?_;rw[HX.o];rintro e w1 ⟨rfl,aj⟩;have W1:=hid (W.o.trans aj);have R1:=hid (R.o.turn aj.2 oo);clear aj;have c01:=W1.o.1.c0;have c11:=W1.o.1.c1;have cf1:=W1.o.1.f1;have cl1:=W1.o.1.lt;have cs1:=W1.o.1.len;have ce1:=W1.o.1.le;go_wp2_with fail;refine cZ (ak s b (k) _ (k) _ (W1.o.1) ⟨oo,oo,oo⟩) fun nq=>?_;go_wp2_with fail;refine pmb (nH x _ oo) fun w2 hb2=>?_;have W2:Hid (aB b s (k+1) w w2):=((W1.o.drewN _).iP _ (k+1) oo oo).below hb2;have R2:Hid (gX w2 w.heap.size):=((R1.o.drewN _).set oo _).below hb2;clear hb2;have r0:=R2.o.c0;have r1:=R2.o.c1;have r2:=R2.o.c2;have rf:=R2.o.f;have rl:=R2.o.lt;go_wp2_with fail
   refine bodyPost_ret (v:=bF (Tok.w 11 x)) (by simp[results,Tryz.results184,go_sem,bF,Tok.w,r0,r1,r2];rfl) rfl ⟨?_,?_⟩
   .rw[HV.o]
   .rw[HV.o];exact((W2.o.cu hbw nl _ _).cu hbw nl _ _).cu hbw nl _ _
 .have e0:(pk s k != 40)=true:=by simpa using Gt
  have HV:Hid (named s i=(Tok.w 14 x,k)):=by show _=_;unfold named;rw[HX.o];dsimp only;rw[if_neg Gt]
  clear Gt;go_in;go_wp2_with fail;refine(Ar s b i _ W.o.1).mono ?_;rw[HX.o];rintro e w1 ⟨rfl,aj⟩;have W1:=hid (W.o.trans aj);have R1:=hid (R.o.turn aj.2 oo);clear aj;have c01:=W1.o.1.c0;have c11:=W1.o.1.c1;have cf1:=W1.o.1.f1;have cl1:=W1.o.1.lt;have cs1:=W1.o.1.len;have ce1:=W1.o.1.le;go_wp2_with fail;refine cZ (ak s b (k) _ (k) _ (W1.o.1) ⟨oo,oo,oo⟩) fun nq=>?_;have r0:=R1.o.c0;have r1:=R1.o.c1;have r2:=R1.o.c2;have rf:=R1.o.f;have rl:=R1.o.lt;go_wp2_with fail;refine bodyPost_ret (v:=bF (Tok.w 14 x)) (by simp[results,Tryz.results184,go_sem,bF,Tok.w,r0,r1,r2];rfl) rfl ⟨?_,?_⟩
  .rw[HV.o]
  .rw[HV.o];exact(((W1.o.drewN _).cu hbw nl _ _).cu hbw nl _ _).cu hbw nl _ _
end Go.Proofs.YtlliliddljkbfaaGreat
namespace Go.Proofs.Tryz
open Go.Shelf
def lays215_ren:Go.Shelf.Ren:=⟨fun|215=>301|n=>n,fun|3=>3|4=>4|n=>n,fun|n=>n⟩
open Go.RowKit in
def lays122_ren:Go.Shelf.Ren:=⟨fun|122=>276|215=>301|n=>n,fun|3=>3|4=>4|n=>n,fun|n=>n⟩
theorem lays122:Go.Proofs.Lays.n122 prog lays122_ren:={
 mixed:=by kernel_rfl
 f122:=func276.trans (congrArg some (by kernel_rfl))
 f215:=func301.trans (congrArg some (by kernel_rfl))
 t3:=underlying3
 a3:=isAgg3
 z3:=sizeOf3
 v3:=zeroValue3
 t4:=underlying4
 a4:=isAgg4
 z4:=sizeOf4
 v4:=zeroValue4 }
open Go.RowKit in
theorem cmp_Compare_int(x y:Int)(w:World):
  Calls prog 276 #[.int .i64 x,.int .i64 y] w fun e w'=>e=.returned (.int .i64 (Lib.compareInt x y))/\w'=w:=Any.cmp_Compare_int lays122 x y w
def lays129_ren:Go.Shelf.Ren:=⟨fun|129=>384|n=>n,fun|53=>101|3=>3|4=>4|46=>331|5=>5|9=>9|n=>n,fun|n=>n⟩
theorem lays129:Go.Proofs.Lays.n129 prog lays129_ren:={
 mixed:=by kernel_rfl
 f129:=func384.trans (congrArg some (by kernel_rfl))
 t3:=underlying3
 a3:=isAgg3
 z3:=sizeOf3
 v3:=zeroValue3
 t4:=underlying4
 a4:=isAgg4
 z4:=sizeOf4
 v4:=zeroValue4
 t5:=underlying5
 a5:=isAgg5
 z5:=sizeOf5
 v5:=zeroValue5
 t9:=underlying9
 a9:=isAgg9
 z9:=sizeOf9
 v9:=zeroValue9
 t46:=underlying331
 a46:=isAgg331
 z46:=sizeOf331
 v46:=zeroValue331
 t53:=underlying101
 a53:=isAgg101
 z53:=sizeOf101
 v53:=zeroValue101 }
theorem bits_Len64(x:Int)(w:World)(h0:0<=x)(h1:x<=18446744073709551615):
  Calls prog 384 #[.int .u64 x] w fun e w'=>e=.returned (.int .i64 (Lib.bitLen x.toNat))/\w'=w:=Any.bits_Len64 lays129 x w h0 h1
def lays317_ren:Go.Shelf.Ren:=⟨fun|317=>383|n=>n,fun|3=>3|46=>331|n=>n,fun|n=>n⟩
theorem lays317:Go.Proofs.Lays.n317 prog lays317_ren:={
 mixed:=by kernel_rfl
 f317:=func383.trans (congrArg some (by kernel_rfl))
 t3:=underlying3
 a3:=isAgg3
 z3:=sizeOf3
 v3:=zeroValue3
 t46:=underlying331
 a46:=isAgg331
 z46:=sizeOf331
 v46:=zeroValue331 }
open Go.Lib in
theorem internal_strconv_log10Pow2(x:Nat)(h:x<=64)(w:World):
  Calls prog 383 #[.int .i64 x] w fun e w'=>e=.returned (.int .i64 (Lib.l10 x))/\w'=w:=Any.internal_strconv_log10Pow2 lays317 x h w
def lays318_ren:Go.Shelf.Ren:=⟨fun|318=>385|n=>n,fun|3=>3|4=>4|n=>n,fun|n=>n⟩
theorem lays318:Go.Proofs.Lays.n318 prog lays318_ren:={
 mixed:=by kernel_rfl
 f318:=func385.trans (congrArg some (by kernel_rfl))
 t3:=underlying3
 a3:=isAgg3
 z3:=sizeOf3
 v3:=zeroValue3
 t4:=underlying4
 a4:=isAgg4
 z4:=sizeOf4
 v4:=zeroValue4 }
open Go.Lib in
theorem internal_strconv_bool2_int(b:Bool)(w:World):
  Calls prog 385 #[.bool b] w fun e w'=>e=.returned (.int .i64 (if b then 1 else 0))/\w'=w:=Any.internal_strconv_bool2_int lays318 b w
open Go.Lib in
open Go.Lib in
def lays285_ren:Go.Shelf.Ren:=⟨fun|285=>381|n=>n,fun|37=>145|53=>101|3=>3|4=>4|51=>337|9=>9|5=>5|0=>0|n=>n,fun|n=>n⟩
theorem lays285:Go.Proofs.Lays.n285 prog lays285_ren:={
 mixed:=by kernel_rfl
 f285:=func381.trans (congrArg some (by kernel_rfl))
 t0:=underlying0
 a0:=isAgg0
 z0:=sizeOf0
 v0:=zeroValue0
 t3:=underlying3
 a3:=isAgg3
 z3:=sizeOf3
 v3:=zeroValue3
 t4:=underlying4
 a4:=isAgg4
 z4:=sizeOf4
 v4:=zeroValue4
 t5:=underlying5
 a5:=isAgg5
 z5:=sizeOf5
 v5:=zeroValue5
 t9:=underlying9
 a9:=isAgg9
 z9:=sizeOf9
 v9:=zeroValue9
 t37:=underlying145
 a37:=isAgg145
 z37:=sizeOf145
 v37:=zeroValue145
 t51:=underlying337
 a51:=isAgg337
 z51:=sizeOf337
 v51:=zeroValue337
 t53:=underlying101
 a53:=isAgg101
 z53:=sizeOf101
 v53:=zeroValue101 }
open Go.RowKit Go.Sort Go.Lib in
theorem internal_strconv_formatBase10(blk off cap:Nat)(u:Nat)(d:Array UInt8)(w:World)(hH:Holds (fun(b:UInt8)=>Value.int .u8 (b.toNat:Int)) w blk off d)(hu:u<10 ^ d.size)(hu64:u<18446744073709551616)(hsz:d.size<4611686018427387904):
  Calls prog 381 #[.slice (some ⟨blk,off,none⟩) d.size cap,.int .u64 u] w fun e w'=>e=.returned (.tuple #[])/\∃(n v':Nat) (dk:Array UInt8),w'=(putRow (fun(b:UInt8)=>Value.int .u8 (b.toNat:Int)) w blk off dk).drewN n/\FmtInv d.size u 0 v' dk:=Any.internal_strconv_formatBase10 lays285 blk off cap u d w hH hu hu64 hsz
def laysM246_ren:Go.Shelf.Ren:=⟨fun|246=>378|283=>379|284=>380|285=>381|286=>382|129=>384|317=>383|318=>385|319=>386|320=>387|337=>388|338=>389|n=>n,fun|2=>2|3=>3|9=>9|4=>4|171=>390|0=>0|53=>101|37=>145|5=>5|173=>393|212=>396|51=>337|20=>20|213=>397|46=>331|232=>400|233=>401|n=>n,fun|17=>3|18=>4|19=>5|n=>n⟩
open Go.RowKit Go.Sort Go.Lib in
open Go.RowKit Go.Sort Go.Lib in
def laysM243_ren:Go.Shelf.Ren:=⟨fun|243=>377|246=>378|283=>379|284=>380|285=>381|286=>382|129=>384|317=>383|318=>385|319=>386|320=>387|337=>388|338=>389|n=>n,fun|3=>3|9=>9|2=>2|4=>4|171=>390|0=>0|53=>101|37=>145|5=>5|173=>393|212=>396|51=>337|20=>20|213=>397|46=>331|232=>400|233=>401|n=>n,fun|17=>3|18=>4|19=>5|n=>n⟩
open Go.RowKit Go.Sort Go.Lib in
open Go.RowKit Go.Sort Go.Lib in
def laysM171_ren:Go.Shelf.Ren:=⟨fun|171=>376|243=>377|246=>378|283=>379|284=>380|285=>381|286=>382|129=>384|317=>383|318=>385|319=>386|320=>387|337=>388|338=>389|n=>n,fun|3=>3|9=>9|2=>2|4=>4|171=>390|0=>0|53=>101|37=>145|5=>5|173=>393|212=>396|51=>337|20=>20|213=>397|46=>331|232=>400|233=>401|n=>n,fun|17=>3|18=>4|19=>5|n=>n⟩
open Go.RowKit Go.Sort Go.Lib in
def lays171_ren:Go.Shelf.Ren:=⟨fun|171=>376|243=>377|246=>378|283=>379|284=>380|285=>381|286=>382|129=>384|317=>383|318=>385|319=>386|320=>387|337=>388|338=>389|n=>n,fun|3=>3|9=>9|2=>2|4=>4|171=>390|0=>0|53=>101|37=>145|5=>5|173=>393|212=>396|51=>337|20=>20|213=>397|46=>331|232=>400|233=>401|n=>n,fun|17=>3|18=>4|19=>5|n=>n⟩
theorem lays171:Go.Proofs.Lays.n171 prog lays171_ren:={
 mixed:=by kernel_rfl
 f129:=func384.trans (congrArg some (by kernel_rfl))
 f171:=func376.trans (congrArg some (by kernel_rfl))
 f243:=func377.trans (congrArg some (by kernel_rfl))
 f246:=func378.trans (congrArg some (by kernel_rfl))
 f283:=func379.trans (congrArg some (by kernel_rfl))
 f284:=func380.trans (congrArg some (by kernel_rfl))
 f285:=func381.trans (congrArg some (by kernel_rfl))
 f286:=func382.trans (congrArg some (by kernel_rfl))
 f317:=func383.trans (congrArg some (by kernel_rfl))
 f318:=func385.trans (congrArg some (by kernel_rfl))
 f319:=func386.trans (congrArg some (by kernel_rfl))
 f320:=func387.trans (congrArg some (by kernel_rfl))
 f337:=func388.trans (congrArg some (by kernel_rfl))
 f338:=func389.trans (congrArg some (by kernel_rfl))
 t0:=underlying0
 a0:=isAgg0
 z0:=sizeOf0
 v0:=zeroValue0
 t2:=underlying2
 a2:=isAgg2
 z2:=sizeOf2
 v2:=zeroValue2
 t3:=underlying3
 a3:=isAgg3
 z3:=sizeOf3
 v3:=zeroValue3
 t4:=underlying4
 a4:=isAgg4
 z4:=sizeOf4
 v4:=zeroValue4
 t5:=underlying5
 a5:=isAgg5
 z5:=sizeOf5
 v5:=zeroValue5
 t9:=underlying9
 a9:=isAgg9
 z9:=sizeOf9
 v9:=zeroValue9
 t20:=underlying20
 a20:=isAgg20
 z20:=sizeOf20
 v20:=zeroValue20
 t37:=underlying145
 a37:=isAgg145
 z37:=sizeOf145
 v37:=zeroValue145
 t46:=underlying331
 a46:=isAgg331
 z46:=sizeOf331
 v46:=zeroValue331
 t51:=underlying337
 a51:=isAgg337
 z51:=sizeOf337
 v51:=zeroValue337
 t53:=underlying101
 a53:=isAgg101
 z53:=sizeOf101
 v53:=zeroValue101
 t171:=underlying390
 a171:=isAgg390
 z171:=sizeOf390
 v171:=zeroValue390
 t173:=underlying393
 a173:=isAgg393
 z173:=sizeOf393
 v173:=zeroValue393
 t212:=underlying396
 a212:=isAgg396
 z212:=sizeOf396
 v212:=zeroValue396
 t213:=underlying397
 a213:=isAgg397
 z213:=sizeOf397
 t232:=underlying400
 a232:=isAgg400
 z232:=sizeOf400
 v232:=zeroValue400
 t233:=underlying401
 a233:=isAgg401
 z233:=sizeOf401
 v233:=zeroValue401
 g17:=by kernel_rfl
 g18:=by kernel_rfl
 g19:=by kernel_rfl }
open Go.RowKit Go.Sort Go.Lib in
theorem strconv_Itoa_small(i:Nat)(hi:i<100)(w:World):
  Calls prog 376 #[.int .i64 i] w fun e w'=>e=.returned (.string ⟨(Lib.decDigits i).toArray⟩)/\w'=w:=Any.strconv_Itoa_small lays171 i hi w
open Go.RowKit Go.Lib in
open Go.RowKit Go.Lib in
open Go.RowKit Go.Lib in
open Go.RowKit Go.Lib in
def lays219_ren:Go.Shelf.Ren:=⟨fun|219=>235|217=>283|225=>284|224=>285|267=>286|266=>302|314=>303|n=>n,fun|9=>9|3=>3|4=>4|5=>5|46=>331|146=>338|51=>337|n=>n,fun|1=>0|n=>n⟩
open Go.RowKit Go.Lib in
open Go.RowKit Go.Lib in
def lays143_ren:Go.Shelf.Ren:=⟨fun|143=>174|219=>235|217=>283|225=>284|224=>285|267=>286|266=>302|314=>303|n=>n,fun|9=>9|3=>3|4=>4|5=>5|46=>331|146=>338|51=>337|n=>n,fun|1=>0|n=>n⟩
theorem lays143:Go.Proofs.Lays.n143 prog lays143_ren:={
 mixed:=by kernel_rfl
 f143:=func174.trans (congrArg some (by kernel_rfl))
 f217:=func283.trans (congrArg some (by kernel_rfl))
 f219:=func235.trans (congrArg some (by kernel_rfl))
 f224:=func285.trans (congrArg some (by kernel_rfl))
 f225:=func284.trans (congrArg some (by kernel_rfl))
 f266:=func302.trans (congrArg some (by kernel_rfl))
 f267:=func286.trans (congrArg some (by kernel_rfl))
 f314:=func303.trans (congrArg some (by kernel_rfl))
 t3:=underlying3
 a3:=isAgg3
 z3:=sizeOf3
 v3:=zeroValue3
 t4:=underlying4
 a4:=isAgg4
 z4:=sizeOf4
 v4:=zeroValue4
 t5:=underlying5
 a5:=isAgg5
 z5:=sizeOf5
 v5:=zeroValue5
 t9:=underlying9
 a9:=isAgg9
 z9:=sizeOf9
 v9:=zeroValue9
 t46:=underlying331
 a46:=isAgg331
 z46:=sizeOf331
 v46:=zeroValue331
 t51:=underlying337
 a51:=isAgg337
 z51:=sizeOf337
 v51:=zeroValue337
 t146:=underlying338
 a146:=isAgg338
 z146:=sizeOf338
 v146:=zeroValue338
 g1:=by kernel_rfl }
open Go.RowKit Go.Lib in
open Go.RowKit Go.Lib in
theorem strings_Index(s sub:ByteArray)(m:Int)(w:World)(hs:s.size<4294967281)(hm:w.cell? ⟨0,0,none⟩=some (.int .i64 m)):
  Calls prog 174 #[.string s,.string sub] w fun e w'=>e=.returned (.int .i64 (Lib.index s.data.toList sub.data.toList))/\w'=w:=Any.strings_Index lays143 s sub m w hs hm
def lays144_ren:Go.Shelf.Ren:=⟨fun|144=>349|143=>174|219=>235|217=>283|225=>284|224=>285|267=>286|266=>302|314=>303|n=>n,fun|9=>9|4=>4|3=>3|5=>5|46=>331|146=>338|51=>337|n=>n,fun|1=>0|n=>n⟩
theorem lays144:Go.Proofs.Lays.n144 prog lays144_ren:={
 mixed:=by kernel_rfl
 f143:=func174.trans (congrArg some (by kernel_rfl))
 f144:=func349.trans (congrArg some (by kernel_rfl))
 f217:=func283.trans (congrArg some (by kernel_rfl))
 f219:=func235.trans (congrArg some (by kernel_rfl))
 f224:=func285.trans (congrArg some (by kernel_rfl))
 f225:=func284.trans (congrArg some (by kernel_rfl))
 f266:=func302.trans (congrArg some (by kernel_rfl))
 f267:=func286.trans (congrArg some (by kernel_rfl))
 f314:=func303.trans (congrArg some (by kernel_rfl))
 t3:=underlying3
 a3:=isAgg3
 z3:=sizeOf3
 v3:=zeroValue3
 t4:=underlying4
 a4:=isAgg4
 z4:=sizeOf4
 v4:=zeroValue4
 t5:=underlying5
 a5:=isAgg5
 z5:=sizeOf5
 v5:=zeroValue5
 t9:=underlying9
 a9:=isAgg9
 z9:=sizeOf9
 v9:=zeroValue9
 t46:=underlying331
 a46:=isAgg331
 z46:=sizeOf331
 v46:=zeroValue331
 t51:=underlying337
 a51:=isAgg337
 z51:=sizeOf337
 v51:=zeroValue337
 t146:=underlying338
 a146:=isAgg338
 z146:=sizeOf338
 v146:=zeroValue338
 g1:=by kernel_rfl }
open Go.RowKit Go.Lib in
open Go.RowKit Go.Lib in
theorem strings_Contains(s sub:ByteArray)(m:Int)(w:World)(hs:s.size<4294967281)(hm:w.cell? ⟨0,0,none⟩=some (.int .i64 m)):
  Calls prog 349 #[.string s,.string sub] w fun e w'=>e=.returned (.bool (Lib.contains s.data.toList sub.data.toList))/\w'=w:=Any.strings_Contains lays144 s sub m w hs hm
open Go.RowKit Go.Lib in
open Go.RowKit Go.Lib in
open Go.RowKit Go.Lib in
def lays206_ren:Go.Shelf.Ren:=⟨fun|206=>169|n=>n,fun|9=>9|4=>4|3=>3|n=>n,fun|n=>n⟩
open Go.RowKit Go.Lib in
def lays99_ren:Go.Shelf.Ren:=⟨fun|99=>105|206=>169|n=>n,fun|9=>9|4=>4|3=>3|n=>n,fun|n=>n⟩
theorem lays99:Go.Proofs.Lays.n99 prog lays99_ren:={
 mixed:=by kernel_rfl
 f99:=func105.trans (congrArg some (by kernel_rfl))
 f206:=func169.trans (congrArg some (by kernel_rfl))
 t3:=underlying3
 a3:=isAgg3
 z3:=sizeOf3
 v3:=zeroValue3
 t4:=underlying4
 a4:=isAgg4
 z4:=sizeOf4
 v4:=zeroValue4
 t9:=underlying9
 a9:=isAgg9
 z9:=sizeOf9
 v9:=zeroValue9 }
open Go.RowKit Go.Lib in
theorem strings_HasPrefix(s p:ByteArray)(w:World):
  Calls prog 105 #[.string s,.string p] w fun e w'=>e=.returned (.bool (Lib.hasPrefix s.data.toList p.data.toList))/\w'=w:=Any.strings_HasPrefix lays99 s p w
open Go.RowKit Go.Lib in
def lays100_ren:Go.Shelf.Ren:=⟨fun|100=>348|207=>352|n=>n,fun|9=>9|4=>4|3=>3|n=>n,fun|n=>n⟩
theorem lays100:Go.Proofs.Lays.n100 prog lays100_ren:={
 mixed:=by kernel_rfl
 f100:=func348.trans (congrArg some (by kernel_rfl))
 f207:=func352.trans (congrArg some (by kernel_rfl))
 t3:=underlying3
 a3:=isAgg3
 z3:=sizeOf3
 v3:=zeroValue3
 t4:=underlying4
 a4:=isAgg4
 z4:=sizeOf4
 v4:=zeroValue4
 t9:=underlying9
 a9:=isAgg9
 z9:=sizeOf9
 v9:=zeroValue9 }
open Go.RowKit Go.Lib in
theorem strings_HasSuffix(s p:ByteArray)(w:World)(hs:s.size<=9223372036854775807):
  Calls prog 348 #[.string s,.string p] w fun e w'=>e=.returned (.bool (Lib.hasSuffix s.data.toList p.data.toList))/\w'=w:=Any.strings_HasSuffix lays100 s p w hs
open Go.RowKit Go.Lib in
open Go.RowKit Go.Lib in
open Go.RowKit Go.Lib in
open Go.RowKit Go.Lib in
open Go.RowKit Go.Lib in
open Go.RowKit Go.Lib in
open Go.RowKit Go.Lib in
open Go.RowKit Go.Lib in
open Go.RowKit Go.Lib in
open Go.RowKit Go.Lib in
open Go.RowKit Go.Lib in
open Go.RowKit Go.Lib in
open Go.RowKit Go.Lib in
open Go.RowKit Go.Lib in
open Go.RowKit Go.Lib in
open Go.RowKit Go.Lib in
open Go.Lib in
open Go.Lib in
def lays107_ren:Go.Shelf.Ren:=⟨fun|107=>186|108=>246|n=>n,fun|28=>31|3=>3|4=>4|0=>0|n=>n,fun|n=>n⟩
theorem lays107:Go.Proofs.Lays.n107 prog lays107_ren:={
 mixed:=by kernel_rfl
 f107:=func186.trans (congrArg some (by kernel_rfl))
 f108:=func246.trans (congrArg some (by kernel_rfl))
 t0:=underlying0
 a0:=isAgg0
 z0:=sizeOf0
 v0:=zeroValue0
 t3:=underlying3
 a3:=isAgg3
 z3:=sizeOf3
 v3:=zeroValue3
 t4:=underlying4
 a4:=isAgg4
 z4:=sizeOf4
 v4:=zeroValue4
 t28:=underlying31
 a28:=isAgg31
 z28:=sizeOf31
 v28:=zeroValue31 }
open Go.Lib in
theorem slices_Contains_int(b off n c:Nat)(zs:List Int)(x:Int)(w:World)(hz:n<=zs.length)(hbig:n<=9223372036854775807)(hc:∀j,j<zs.length->w.cell? ⟨b,off+j,none⟩=some (.int .i64 (zs.getD j 0))):
  Calls prog 186 #[.slice (some ⟨b,off,none⟩) n c,.int .i64 x] w fun e w'=>e=.returned (.bool ((zs.take n).contains x))/\w'=w:=Any.slices_Contains_int lays107 b off n c zs x w hz hbig hc
open Go.Lib in
open Go.Lib in
open Go.Lib in
def lays110_ren:Go.Shelf.Ren:=⟨fun|110=>188|109=>247|n=>n,fun|31=>26|9=>9|4=>4|3=>3|0=>0|n=>n,fun|n=>n⟩
theorem lays110:Go.Proofs.Lays.n110 prog lays110_ren:={
 mixed:=by kernel_rfl
 f109:=func247.trans (congrArg some (by kernel_rfl))
 f110:=func188.trans (congrArg some (by kernel_rfl))
 t0:=underlying0
 a0:=isAgg0
 z0:=sizeOf0
 v0:=zeroValue0
 t3:=underlying3
 a3:=isAgg3
 z3:=sizeOf3
 v3:=zeroValue3
 t4:=underlying4
 a4:=isAgg4
 z4:=sizeOf4
 v4:=zeroValue4
 t9:=underlying9
 a9:=isAgg9
 z9:=sizeOf9
 v9:=zeroValue9
 t31:=underlying26
 a31:=isAgg26
 z31:=sizeOf26
 v31:=zeroValue26 }
open Go.Lib in
theorem slices_Contains_string(b off n c:Nat)(zs:List ByteArray)(x:ByteArray)(w:World)(hz:n<=zs.length)(hbig:n<=9223372036854775807)(hc:∀j,j<zs.length->w.cell? ⟨b,off+j,none⟩=some (.string (zs.getD j ByteArray.empty))):
  Calls prog 188 #[.slice (some ⟨b,off,none⟩) n c,.string x] w fun e w'=>e=.returned (.bool (Lib.containsS (zs.take n) x))/\w'=w:=Any.slices_Contains_string lays110 b off n c zs x w hz hbig hc
open Go.Lib in
theorem slices_Contains_string_empty(a:Option Addr)(c:Nat)(x:ByteArray)(w:World):
  Calls prog 188 #[.slice a 0 c,.string x] w fun e w'=>e=.returned (.bool false)/\w'=w:=Any.slices_Contains_string_empty lays110 a c x w
end Go.Proofs.Tryz
namespace Go.Proofs.YtlliliddljkbfaaGreat
open Go.Proofs.Tryz (prog)
open Go.RowKit Sp
theorem xY(s:BY)(b i:Nat)(t:BY)(w:WD)(h:Sc w b s i):
  Calls prog 173 #[.pointer (some ⟨b,0,none⟩),.string t] w fun e w'=>e=.returned (.bool (pre s i t.data.toList))/\∃n,w'=w.drewN n:=by
 have h0:=h.c0;have h1:=h.c1;have hs:=h.len;have hi:=h.le;clear h;rw[<-afT];go_in;go_wp2_with fail;go_quiet ((go_at_call 105;exact Calls.quiet_of_same (Tryz.strings_HasPrefix _ _ _)))
 go_wp2_with fail;go_ret;exact⟨rfl,_,rfl⟩
theorem YI(s:BY)(l:Int)(k:Nat)(hl:l=k)(h:k<=s.size)(w:WD):(Instr.slice 9 (.string s) (some (.int .i64 l)) none none).run prog w=.ok (.string (s.extract k s.size)) w:=by subst hl;have:=run_slice_string_l (P:=prog) (w:=w) (t:=9) (s:=s) (ht:=Tryz.underlying9) .i64 (k:Int) oo oo;simpa using this
theorem aau(s:BY)(k:Nat)(m:Int)(w:WD)(h6:s.size<=600)(hk:k<=s.size)(hst:s.size<=star s k)(hm:w.cell? ⟨0,0,none⟩=some (.int .i64 m)):
  Calls prog 174 #[.string (s.extract k s.size),.string ⟨#[42,47]⟩] w fun e w'=>e=.returned (.int .i64 (-1))/\w'=w:=by
 refine(Tryz.strings_Index _ _ m w Al hm).mono ?_;rintro e w' ⟨rfl,rfl⟩;exact⟨aiO (Ib hk hst),rfl⟩
theorem acR(s:BY)(k:Nat)(m:Int)(w:WD)(h6:s.size<=600)(hk:k<=s.size)(hst:star s k<s.size)(hm:w.cell? ⟨0,0,none⟩=some (.int .i64 m)):
  Calls prog 174 #[.string (s.extract k s.size),.string ⟨#[42,47]⟩] w fun e w'=>e=.returned (.int .i64 ((star s k-k:Nat):Int))/\w'=w:=by
 refine(Tryz.strings_Index _ _ m w Al hm).mono ?_;rintro e w' ⟨rfl,rfl⟩;exact⟨aiO (by rw[show(⟨#[42,47]⟩:BY).data.toList=[42,47] from rfl,KW hk hst];have:=Ol s k;omega),rfl⟩
theorem RD(s:BY)(i:Nat):pre s i [47,42]=(pk s i==47&&pk s (i+1)==42):=by simp[pre]
theorem IV(s:BY)(b i:Nat)(w:WD)(h:Sc w b s i):
  Calls prog 112 #[.pointer (some ⟨b,0,none⟩)] w fun e w'=>e=.returned (.tuple #[])/\aB b s (com s i) w w':=by
 have W:Hid (aB b s i w w):=aB.refl h;clear h;go_in;go_wp2_with fail;refine ji (fun Q' hF=>?_);go_wp2_with fail;go_loopg[] s.size (fun g wr=>∃k:Nat,s.size<=k+g/\Aside (Bv s g k=com s i/\aB b s k w wr));case atStart=>exact⟨i,oo,rfl,W.o⟩
 case round=>
  obtain⟨k,hk,hA⟩:=hrel;have H1:=hid hA.o.1;have H2:=hid hA.o.2;clear hA;have c02:=H2.o.1.c0;have c12:=H2.o.1.c1;have cf2:=H2.o.1.f1;have cl2:=H2.o.1.lt;have cs2:=H2.o.1.len;have ce2:=H2.o.1.le;cases hpre:pre s k [47,42]
  .have HV:Hid (com s i=k):=by
    show _=_;rw[RD]at hpre;rw[<-H1.o];cases gk with
    |zero=>rfl
    |succ f=>unfold Bv;rw[if_neg (fun h=>by simp[h]at hpre)]
   go_wp2_with fail;refine cZ (xY s b k _ _ H2.o.1) fun nq=>?_;go_wp2_with fail;go_step3
   refine hF.norm _ _ ?_;go_end0
   refine⟨rfl,?_⟩;rw[HV.o];exact H2.o.drewN _
  .have ho:pk s k=47/\pk s (k+1)=42:=by rw[RD]at hpre;simpa using hpre
   have hlt:k+1<s.size:=dY oo;have hge:=Ol s (k+2);have hle:=afL (s:=s) (k:=k+2) oo;obtain⟨f,rfl⟩:∃f,gk=f+1:=⟨gk-1,oo⟩;have kT:=H1.o;unfold Bv at kT;rw[if_pos ho]at kT;clear ho;by_cases hst:s.size<=star s (k+2)
   .rw[if_pos hst]at kT;have HV:=hid kT.symm;clear kT;go_wp2_with fail;refine(xY s b k _ _ H2.o.1).mono ?_;rintro e wq ⟨rfl,nq,hwq⟩;have W1:Hid (aB b s k w wq):=by show aB b s k w wq;rw[hwq];exact H2.o.drewN nq
    clear hwq;have c03:=W1.o.1.c0;have c13:=W1.o.1.c1;have cf3:=W1.o.1.f1;have cl3:=W1.o.1.lt;have cs3:=W1.o.1.len;have ce3:=W1.o.1.le;go_wp2_with fail;obtain⟨m,hm⟩:=W1.o.1.glob;have hw2:IntKind.i64.wrap ((k:Int)+2)=(k:Int)+2:=by rw[IntKind.wrap_i64];omega
    have hsl:=YI s ((k:Int)+2) (k+2) oo oo;go_quiet ((go_at_call 174;exact Calls.quiet_of_same (aau s (k+2) m _ oo oo hst hm)))
    go_wp2_with fail;go_step3
    refine hF.go _ _ _ _ rfl ?_;clear hF;go_wp2
    simp only[Exit.noGoto];go_end0
    refine⟨rfl,?_⟩;rw[HV.o];exact(W1.o.drewN _).iP _ s.size rfl nl
   .have hst':star s (k+2)<s.size:=oo;have hle2:=GZ hst';rw[if_neg hst]at kT;have HV:=hid kT;clear kT;go_wp2_with fail;refine(xY s b k _ _ H2.o.1).mono ?_;rintro e wq ⟨rfl,nq,hwq⟩;have W1:Hid (aB b s k w wq):=by show aB b s k w wq;rw[hwq];exact H2.o.drewN nq
    clear hwq;have c03:=W1.o.1.c0;have c13:=W1.o.1.c1;have cf3:=W1.o.1.f1;have cl3:=W1.o.1.lt;have cs3:=W1.o.1.len;have ce3:=W1.o.1.le;go_wp2_with fail;obtain⟨m,hm⟩:=W1.o.1.glob;have hw2:IntKind.i64.wrap ((k:Int)+2)=(k:Int)+2:=by rw[IntKind.wrap_i64];omega
    have hsl:=YI s ((k:Int)+2) (k+2) oo oo;go_quiet ((go_at_call 174;exact Calls.quiet_of_same (acR s (k+2) m _ oo oo hst' hm)))
    generalize hd:star s (k+2)-(k+2)=d;have hd1:star s (k+2)=k+2+d:=oo;have HD:=hid hd1;have hd2:k+2+d+2<=s.size:=oo;clear hd hd1 hst hst' hge hle hle2;go_wp2_with fail;go_roundg f;case measure=>omega
    case rel=>refine⟨k+2+d+2,oo,?_,(W1.o.drewN _).iP _ (k+2+d+2) oo oo⟩;rw[<-HD.o];exact HV.o
theorem amG(s:BY)(i:Nat):pre s i [60,33,45,45]=kG s i:=by simp[pre,kG,Bool.and_assoc]
theorem amH(s:BY)(i:Nat):pre s i [45,45,62]=kL s i:=by simp[pre,kL,Bool.and_assoc]
theorem jH(s:BY)(b i:Nat)(w:WD)(h:Sc w b s i):
  Calls prog 173 #[.pointer (some ⟨b,0,none⟩),.string ⟨#[60,33,45,45]⟩] w fun e w'=>e=.returned (.bool (kG s i))/\∃n,w'=w.drewN n:=by
 rw[<-amG];exact xY s b i _ w h
theorem lF(s:BY)(b i:Nat)(w:WD)(h:Sc w b s i):
  Calls prog 173 #[.pointer (some ⟨b,0,none⟩),.string ⟨#[45,45,62]⟩] w fun e w'=>e=.returned (.bool (kL s i))/\∃n,w'=w.drewN n:=by
 rw[<-amH];exact xY s b i _ w h
theorem RF(s:BY)(b i:Nat)(w:WD)(h:Sc w b s i)(hi:i<s.size)(hbl:aO (pk s i)=true)(HV:Hid (token s i=(Tok.k 1,Sp.blk s i))):
  Calls prog 114 #[.pointer (some ⟨b,0,none⟩)] w fun e w'=>e=.returned (bF (token s i).1)/\aB b s (token s i).2 w w':=by
 have W:=aB.nh h;have R:=gX.nh w;have hbw:b<w.heap.size:=h.lt;have hs:s.size<=600:=h.len;have _hi:=hi;clear h;have c00:=W.o.1.c0;have c10:=W.o.1.c1;have KY:=W.o.1.f1;have KZ:=W.o.1.lt;have cs0:=W.o.1.len;have La:=W.o.1.le;go_in;go_wp2_with fail;refine cZ (ak s b (i) _ (i) _ (W.o.1) ⟨oo,oo,oo⟩) fun nq=>?_;go_wp2_with fail;refine jA (aW _ _) ?_;go_wp2_with fail;refine pmb (lg s b i _ (W.o.1.drewN _)) fun w1 aj=>?_;have W1:Hid (aB b s (Sp.blk s i) w w1):=(W.o.drewN _).trans aj;have R1:Hid (gX w1 w.heap.size):=(R.o.drewN _).turn aj.2 oo;clear aj;have r0:=R1.o.c0;have r1:=R1.o.c1;have r2:=R1.o.c2;have rf:=R1.o.f;have rl:=R1.o.lt;go_wp2_with fail
 refine bodyPost_ret (v:=bF (Tok.k 1)) (by simp[results,Tryz.results114,go_sem,bF,Tok.k,r0,r1,r2];rfl) rfl ⟨?_,?_⟩
 .rw[HV.o]
 .rw[HV.o];exact((W1.o.cu hbw nl _ _).cu hbw nl _ _).cu hbw nl _ _
theorem V8(s:BY)(b i:Nat)(w:WD)(h:Sc w b s i)(hi:i<s.size)(hbl:aO (pk s i)=false)(zX:dD (pk s i)=true)(HV:Hid (token s i=txt s (pk s i) (i+1))):
  Calls prog 114 #[.pointer (some ⟨b,0,none⟩)] w fun e w'=>e=.returned (bF (token s i).1)/\aB b s (token s i).2 w w':=by
 have W:=aB.nh h;have R:=gX.nh w;have hbw:b<w.heap.size:=h.lt;have hs:s.size<=600:=h.len;have _hi:=hi;clear h;have c00:=W.o.1.c0;have c10:=W.o.1.c1;have KY:=W.o.1.f1;have KZ:=W.o.1.lt;have cs0:=W.o.1.len;have La:=W.o.1.le;go_in;go_wp2_with fail;refine cZ (ak s b (i) _ (i) _ (W.o.1) ⟨oo,oo,oo⟩) fun nq=>?_;go_wp2_with fail;refine jA (aW _ _) ?_;go_wp2_with fail;refine jA (fH _ _) ?_;go_wp2_with fail;refine pmb (ajf s b i _ (W.o.1.drewN _) hi) fun w1 aj=>?_;have W1:Hid (aB b s (txt s (pk s i) (i+1)).2 w w1):=(W.o.drewN _).trans aj;have R1:Hid (gX w1 w.heap.size):=(R.o.drewN _).turn aj.2 oo;clear aj;have r0:=R1.o.c0;have r1:=R1.o.c1;have r2:=R1.o.c2;have rf:=R1.o.f;have rl:=R1.o.lt;unfold bF;go_wp2_with fail
 refine bodyPost_ret (v:=bF ((txt s (pk s i) (i+1)).1)) (by simp[results,Tryz.results114,go_sem,bF,r0,r1,r2]) rfl ⟨?_,?_⟩
 .rw[HV.o]
 .rw[HV.o];exact((W1.o.cu hbw nl _ _).cu hbw nl _ _).cu hbw nl _ _
theorem V9(s:BY)(b i:Nat)(w:WD)(h:Sc w b s i)(hi:i<s.size)(hbl:aO (pk s i)=false)(zX:dD (pk s i)=false)(hha:(pk s i==35)=true)(hgo:jT s (i+1)=true)(HV:Hid (token s i=(Tok.w 4 (Sp.name s (i+1)).1,(Sp.name s (i+1)).2))):
  Calls prog 114 #[.pointer (some ⟨b,0,none⟩)] w fun e w'=>e=.returned (bF (token s i).1)/\aB b s (token s i).2 w w':=by
 have W:=aB.nh h;have R:=gX.nh w;have hbw:b<w.heap.size:=h.lt;have hs:s.size<=600:=h.len;have _hi:=hi;clear h;have c00:=W.o.1.c0;have c10:=W.o.1.c1;have KY:=W.o.1.f1;have KZ:=W.o.1.lt;have cs0:=W.o.1.len;have La:=W.o.1.le;go_in;go_wp2_with fail;refine cZ (ak s b (i) _ (i) _ (W.o.1) ⟨oo,oo,oo⟩) fun nq=>?_;go_wp2_with fail;refine jA (aW _ _) ?_;go_wp2_with fail;refine jA (fH _ _) ?_;go_wp2_with fail;refine cZ (kZ s b (i) _ (i+1) _ (W.o.1.drewN _) ⟨oo,oo,oo⟩) fun nq=>?_;go_wp2_with fail;refine pmb (Ar s b (i+1) _ ((W.o.1.drewN _).iP _ (i+1) oo oo)) fun w1 aj=>?_;have W1:Hid (aB b s (Sp.name s (i+1)).2 w w1):=((W.o.drewN _).iP _ (i+1) oo oo).trans aj
 have R1:Hid (gX w1 w.heap.size):=((R.o.drewN _).set oo _).turn aj.2 oo;clear aj;have r0:=R1.o.c0;have r1:=R1.o.c1;have r2:=R1.o.c2;have rf:=R1.o.f;have rl:=R1.o.lt;go_wp2_with fail;refine bodyPost_ret (v:=bF (Tok.w 4 (Sp.name s (i+1)).1)) (by simp[results,Tryz.results114,go_sem,bF,Tok.w,r0,r1,r2];rfl) rfl ⟨?_,?_⟩
 .rw[HV.o]
 .rw[HV.o];exact((W1.o.cu hbw nl _ _).cu hbw nl _ _).cu hbw nl _ _
theorem RG(s:BY)(b i:Nat)(w:WD)(h:Sc w b s i)(hi:i<s.size)(hbl:aO (pk s i)=false)(zX:dD (pk s i)=false)(hha:(pk s i==35)=false)(hnu:iO s i=true)(HV:Hid (token s i=Sp.numeric s i)):
  Calls prog 114 #[.pointer (some ⟨b,0,none⟩)] w fun e w'=>e=.returned (bF (token s i).1)/\aB b s (token s i).2 w w':=by
 have W:=aB.nh h;have R:=gX.nh w;have hbw:b<w.heap.size:=h.lt;have hs:s.size<=600:=h.len;have _hi:=hi;clear h;have c00:=W.o.1.c0;have c10:=W.o.1.c1;have KY:=W.o.1.f1;have KZ:=W.o.1.lt;have cs0:=W.o.1.len;have La:=W.o.1.le;go_in;go_wp2_with fail;refine cZ (ak s b (i) _ (i) _ (W.o.1) ⟨oo,oo,oo⟩) fun nq=>?_;go_wp2_with fail;refine jA (aW _ _) ?_;go_wp2_with fail;refine jA (fH _ _) ?_;go_wp2_with fail;refine cZ (dn s b i _ (W.o.1.drewN _)) fun nq=>?_;go_wp2_with fail;refine pmb (Nh s b i _ (W.o.1.drewN _)) fun w1 aj=>?_;have W1:Hid (aB b s (Sp.numeric s i).2 w w1):=(W.o.drewN _).trans aj;have R1:Hid (gX w1 w.heap.size):=(R.o.drewN _).turn aj.2 oo;clear aj;have r0:=R1.o.c0
 have r1:=R1.o.c1;have r2:=R1.o.c2;have rf:=R1.o.f;have rl:=R1.o.lt;unfold bF;go_wp2_with fail;refine bodyPost_ret (v:=bF ((Sp.numeric s i).1)) (by simp[results,Tryz.results114,go_sem,bF,r0,r1,r2]) rfl ⟨?_,?_⟩
 .rw[HV.o]
 .rw[HV.o];exact((W1.o.cu hbw nl _ _).cu hbw nl _ _).cu hbw nl _ _
theorem OG(s:BY)(b i:Nat)(w:WD)(h:Sc w b s i)(hi:i<s.size)(hbl:aO (pk s i)=false)(zX:dD (pk s i)=false)(hha:(pk s i==35)=false)(hnu:iO s i=false)(hs4:kG s i=true)(hl:i+4<=s.size)(HV:Hid (token s i=(Tok.k 8,i+4))):
  Calls prog 114 #[.pointer (some ⟨b,0,none⟩)] w fun e w'=>e=.returned (bF (token s i).1)/\aB b s (token s i).2 w w':=by
 have W:=aB.nh h;have R:=gX.nh w;have hbw:b<w.heap.size:=h.lt;have hs:s.size<=600:=h.len;have _hi:=hi;clear h;have c00:=W.o.1.c0;have c10:=W.o.1.c1;have KY:=W.o.1.f1;have KZ:=W.o.1.lt;have cs0:=W.o.1.len;have La:=W.o.1.le;go_in;go_wp2_with fail;refine cZ (ak s b (i) _ (i) _ (W.o.1) ⟨oo,oo,oo⟩) fun nq=>?_;go_wp2_with fail;refine jA (aW _ _) ?_;go_wp2_with fail;refine jA (fH _ _) ?_;go_wp2_with fail;refine cZ (dn s b i _ (W.o.1.drewN _)) fun nq=>?_;go_wp2_with fail;refine cZ (jH s b i _ (W.o.1.drewN _)) fun nq=>?_;have r0:=R.o.c0;have r1:=R.o.c1;have r2:=R.o.c2;have rf:=R.o.f;have rl:=R.o.lt;go_wp2_with fail
 refine bodyPost_ret (v:=bF (Tok.k 8)) (by simp[results,Tryz.results114,go_sem,bF,Tok.k,r0,r1,r2];rfl) rfl ⟨?_,?_⟩
 .rw[HV.o]
 .rw[HV.o];exact((((W.o.drewN _).iP _ (i+4) oo oo).cu hbw nl _ _).cu hbw nl _ _).cu hbw nl _ _
theorem Lp(s:BY)(b i:Nat)(w:WD)(h:Sc w b s i)(hi:i<s.size)(hbl:aO (pk s i)=false)(zX:dD (pk s i)=false)(hha:(pk s i==35)=false)(hnu:iO s i=false)(hs4:kG s i=false)(hs3:kL s i=true)(hl:i+3<=s.size)(HV:Hid (token s i=(Tok.k 9,i+3))):
  Calls prog 114 #[.pointer (some ⟨b,0,none⟩)] w fun e w'=>e=.returned (bF (token s i).1)/\aB b s (token s i).2 w w':=by
 have W:=aB.nh h;have R:=gX.nh w;have hbw:b<w.heap.size:=h.lt;have hs:s.size<=600:=h.len;have _hi:=hi;clear h;have c00:=W.o.1.c0;have c10:=W.o.1.c1;have KY:=W.o.1.f1;have KZ:=W.o.1.lt;have cs0:=W.o.1.len;have La:=W.o.1.le;go_in;go_wp2_with fail;refine cZ (ak s b (i) _ (i) _ (W.o.1) ⟨oo,oo,oo⟩) fun nq=>?_;go_wp2_with fail;refine jA (aW _ _) ?_;go_wp2_with fail;refine jA (fH _ _) ?_;go_wp2_with fail;refine cZ (dn s b i _ (W.o.1.drewN _)) fun nq=>?_;go_wp2_with fail;refine cZ (jH s b i _ (W.o.1.drewN _)) fun nq=>?_;go_wp2_with fail;refine cZ (lF s b i _ (W.o.1.drewN _)) fun nq=>?_;have r0:=R.o.c0;have r1:=R.o.c1;have r2:=R.o.c2;have rf:=R.o.f;have rl:=R.o.lt
 go_wp2_with fail;refine bodyPost_ret (v:=bF (Tok.k 9)) (by simp[results,Tryz.results114,go_sem,bF,Tok.k,r0,r1,r2];rfl) rfl ⟨?_,?_⟩
 .rw[HV.o]
 .rw[HV.o];exact((((W.o.drewN _).iP _ (i+3) oo oo).cu hbw nl _ _).cu hbw nl _ _).cu hbw nl _ _
theorem Wh(s:BY)(b i:Nat)(w:WD)(h:Sc w b s i)(hi:i<s.size)(hbl:aO (pk s i)=false)(zX:dD (pk s i)=false)(hha:(pk s i==35)=false)(hnu:iO s i=false)(hs4:kG s i=false)(hs3:kL s i=false)(hat:(pk s i==64)=true)(hb1:iG s (i+1)=true)(HV:Hid (token s i=(Tok.w 10 (Sp.name s (i+1)).1,(Sp.name s (i+1)).2))):
  Calls prog 114 #[.pointer (some ⟨b,0,none⟩)] w fun e w'=>e=.returned (bF (token s i).1)/\aB b s (token s i).2 w w':=by
 have W:=aB.nh h;have R:=gX.nh w;have hbw:b<w.heap.size:=h.lt;have hs:s.size<=600:=h.len;have _hi:=hi;clear h;have c00:=W.o.1.c0;have c10:=W.o.1.c1;have KY:=W.o.1.f1;have KZ:=W.o.1.lt;have cs0:=W.o.1.len;have La:=W.o.1.le;go_in;go_wp2_with fail;refine cZ (ak s b (i) _ (i) _ (W.o.1) ⟨oo,oo,oo⟩) fun nq=>?_;go_wp2_with fail;refine jA (aW _ _) ?_;go_wp2_with fail;refine jA (fH _ _) ?_;go_wp2_with fail;refine cZ (dn s b i _ (W.o.1.drewN _)) fun nq=>?_;go_wp2_with fail;refine cZ (jH s b i _ (W.o.1.drewN _)) fun nq=>?_;go_wp2_with fail;refine cZ (lF s b i _ (W.o.1.drewN _)) fun nq=>?_;go_wp2_with fail
 refine cZ (fP s b (i) _ (i+1) _ (W.o.1.drewN _) ⟨oo,oo,oo⟩) fun nq=>?_;go_wp2_with fail;refine pmb (Ar s b (i+1) _ ((W.o.1.drewN _).iP _ (i+1) oo oo)) fun w1 aj=>?_;have W1:Hid (aB b s (Sp.name s (i+1)).2 w w1):=((W.o.drewN _).iP _ (i+1) oo oo).trans aj;have R1:Hid (gX w1 w.heap.size):=((R.o.drewN _).set oo _).turn aj.2 oo;clear aj;have r0:=R1.o.c0;have r1:=R1.o.c1;have r2:=R1.o.c2;have rf:=R1.o.f;have rl:=R1.o.lt;go_wp2_with fail;refine bodyPost_ret (v:=bF (Tok.w 10 (Sp.name s (i+1)).1)) (by simp[results,Tryz.results114,go_sem,bF,Tok.w,r0,r1,r2];rfl) rfl ⟨?_,?_⟩
 .rw[HV.o]
 .rw[HV.o];exact((W1.o.cu hbw nl _ _).cu hbw nl _ _).cu hbw nl _ _
theorem IW(s:BY)(b i:Nat)(w:WD)(h:Sc w b s i)(hi:i<s.size)(hbl:aO (pk s i)=false)(zX:dD (pk s i)=false)(hha:(pk s i==35)=false)(hnu:iO s i=false)(hs4:kG s i=false)(hs3:kL s i=false)(hat:(pk s i==64)=false)(hb0:iG s i=true)(HV:Hid (token s i=named s i)):
  Calls prog 114 #[.pointer (some ⟨b,0,none⟩)] w fun e w'=>e=.returned (bF (token s i).1)/\aB b s (token s i).2 w w':=by
 have W:=aB.nh h;have R:=gX.nh w;have hbw:b<w.heap.size:=h.lt;have hs:s.size<=600:=h.len;have _hi:=hi;clear h;have c00:=W.o.1.c0;have c10:=W.o.1.c1;have KY:=W.o.1.f1;have KZ:=W.o.1.lt;have cs0:=W.o.1.len;have La:=W.o.1.le;go_in;go_wp2_with fail;refine cZ (ak s b (i) _ (i) _ (W.o.1) ⟨oo,oo,oo⟩) fun nq=>?_;go_wp2_with fail;refine jA (aW _ _) ?_;go_wp2_with fail;refine jA (fH _ _) ?_;go_wp2_with fail;refine cZ (dn s b i _ (W.o.1.drewN _)) fun nq=>?_;go_wp2_with fail;refine cZ (jH s b i _ (W.o.1.drewN _)) fun nq=>?_;go_wp2_with fail;refine cZ (lF s b i _ (W.o.1.drewN _)) fun nq=>?_;go_wp2_with fail
 refine cZ (fP s b (i) _ (i) _ (W.o.1.drewN _) ⟨oo,oo,oo⟩) fun nq=>?_;go_wp2_with fail;refine pmb (OE s b i _ (W.o.1.drewN _)) fun w1 aj=>?_;have W1:Hid (aB b s (named s i).2 w w1):=(W.o.drewN _).trans aj;have R1:Hid (gX w1 w.heap.size):=(R.o.drewN _).turn aj.2 oo;clear aj;have r0:=R1.o.c0;have r1:=R1.o.c1;have r2:=R1.o.c2;have rf:=R1.o.f;have rl:=R1.o.lt;unfold bF;go_wp2_with fail;refine bodyPost_ret (v:=bF ((named s i).1)) (by simp[results,Tryz.results114,go_sem,bF,r0,r1,r2]) rfl ⟨?_,?_⟩
 .rw[HV.o]
 .rw[HV.o];exact((W1.o.cu hbw nl _ _).cu hbw nl _ _).cu hbw nl _ _
theorem Lr(s:BY)(b i:Nat)(w:WD)(h:Sc w b s i)(hi:i<s.size)(hbl:aO (pk s i)=false)(zX:dD (pk s i)=false)(hha:(pk s i==35)=false)(hnu:iO s i=false)(hs4:kG s i=false)(hs3:kL s i=false)(hat:(pk s i==64)=false)(hb0:iG s i=false)(HV:Hid (token s i=(Tok.w 15 (one s i),i+1))):
  Calls prog 114 #[.pointer (some ⟨b,0,none⟩)] w fun e w'=>e=.returned (bF (token s i).1)/\aB b s (token s i).2 w w':=by
 have W:=aB.nh h;have R:=gX.nh w;have hbw:b<w.heap.size:=h.lt;have hs:s.size<=600:=h.len;have _hi:=hi;clear h;have c00:=W.o.1.c0;have c10:=W.o.1.c1;have KY:=W.o.1.f1;have KZ:=W.o.1.lt;have cs0:=W.o.1.len;have La:=W.o.1.le;go_in;go_wp2_with fail;refine cZ (ak s b (i) _ (i) _ (W.o.1) ⟨oo,oo,oo⟩) fun nq=>?_;go_wp2_with fail;refine jA (aW _ _) ?_;go_wp2_with fail;refine jA (fH _ _) ?_;go_wp2_with fail;refine cZ (dn s b i _ (W.o.1.drewN _)) fun nq=>?_;go_wp2_with fail;refine cZ (jH s b i _ (W.o.1.drewN _)) fun nq=>?_;go_wp2_with fail;refine cZ (lF s b i _ (W.o.1.drewN _)) fun nq=>?_;go_wp2_with fail
 refine cZ (fP s b (i) _ (i) _ (W.o.1.drewN _) ⟨oo,oo,oo⟩) fun nq=>?_;go_wp2_with fail;refine pmb (Ap s b i _ (W.o.1.drewN _) hi) fun w1 aj=>?_;have W1:Hid (aB b s (i+1) w w1):=(W.o.drewN _).trans aj;have R1:Hid (gX w1 w.heap.size):=(R.o.drewN _).turn aj.2 oo;clear aj;have r0:=R1.o.c0;have r1:=R1.o.c1;have r2:=R1.o.c2;have rf:=R1.o.f;have rl:=R1.o.lt;go_wp2_with fail;refine bodyPost_ret (v:=bF (Tok.w 15 (one s i))) (by simp[results,Tryz.results114,go_sem,bF,Tok.w,r0,r1,r2];rfl) rfl ⟨?_,?_⟩
 .rw[HV.o]
 .rw[HV.o];exact((W1.o.cu hbw nl _ _).cu hbw nl _ _).cu hbw nl _ _
theorem IX(s:BY)(b i:Nat)(w:WD)(h:Sc w b s i)(hi:i<s.size)(hbl:aO (pk s i)=false)(zX:dD (pk s i)=false)(hha:(pk s i==35)=false)(hnu:iO s i=false)(hs4:kG s i=false)(hs3:kL s i=false)(hat:(pk s i==64)=true)(hb1:iG s (i+1)=false)(hb0:iG s i=true)(HV:Hid (token s i=named s i)):
  Calls prog 114 #[.pointer (some ⟨b,0,none⟩)] w fun e w'=>e=.returned (bF (token s i).1)/\aB b s (token s i).2 w w':=by
 have W:=aB.nh h;have R:=gX.nh w;have hbw:b<w.heap.size:=h.lt;have hs:s.size<=600:=h.len;have _hi:=hi;clear h;have c00:=W.o.1.c0;have c10:=W.o.1.c1;have KY:=W.o.1.f1;have KZ:=W.o.1.lt;have cs0:=W.o.1.len;have La:=W.o.1.le;go_in;go_wp2_with fail;refine cZ (ak s b (i) _ (i) _ (W.o.1) ⟨oo,oo,oo⟩) fun nq=>?_;go_wp2_with fail;refine jA (aW _ _) ?_;go_wp2_with fail;refine jA (fH _ _) ?_;go_wp2_with fail;refine cZ (dn s b i _ (W.o.1.drewN _)) fun nq=>?_;go_wp2_with fail;refine cZ (jH s b i _ (W.o.1.drewN _)) fun nq=>?_;go_wp2_with fail;refine cZ (lF s b i _ (W.o.1.drewN _)) fun nq=>?_;go_wp2_with fail
 refine cZ (fP s b (i) _ (i+1) _ (W.o.1.drewN _) ⟨oo,oo,oo⟩) fun nq=>?_;go_wp2_with fail;refine cZ (fP s b (i) _ (i) _ (W.o.1.drewN _) ⟨oo,oo,oo⟩) fun nq=>?_;go_wp2_with fail;refine pmb (OE s b i _ (W.o.1.drewN _)) fun w1 aj=>?_;have W1:Hid (aB b s (named s i).2 w w1):=(W.o.drewN _).trans aj;have R1:Hid (gX w1 w.heap.size):=(R.o.drewN _).turn aj.2 oo;clear aj;have r0:=R1.o.c0;have r1:=R1.o.c1;have r2:=R1.o.c2;have rf:=R1.o.f;have rl:=R1.o.lt;unfold bF;go_wp2_with fail;refine bodyPost_ret (v:=bF ((named s i).1)) (by simp[results,Tryz.results114,go_sem,bF,r0,r1,r2]) rfl ⟨?_,?_⟩
 .rw[HV.o]
 .rw[HV.o];exact((W1.o.cu hbw nl _ _).cu hbw nl _ _).cu hbw nl _ _
theorem Ls(s:BY)(b i:Nat)(w:WD)(h:Sc w b s i)(hi:i<s.size)(hbl:aO (pk s i)=false)(zX:dD (pk s i)=false)(hha:(pk s i==35)=false)(hnu:iO s i=false)(hs4:kG s i=false)(hs3:kL s i=false)(hat:(pk s i==64)=true)(hb1:iG s (i+1)=false)(hb0:iG s i=false)(HV:Hid (token s i=(Tok.w 15 (one s i),i+1))):
  Calls prog 114 #[.pointer (some ⟨b,0,none⟩)] w fun e w'=>e=.returned (bF (token s i).1)/\aB b s (token s i).2 w w':=by
 have W:=aB.nh h;have R:=gX.nh w;have hbw:b<w.heap.size:=h.lt;have hs:s.size<=600:=h.len;have _hi:=hi;clear h;have c00:=W.o.1.c0;have c10:=W.o.1.c1;have KY:=W.o.1.f1;have KZ:=W.o.1.lt;have cs0:=W.o.1.len;have La:=W.o.1.le;go_in;go_wp2_with fail;refine cZ (ak s b (i) _ (i) _ (W.o.1) ⟨oo,oo,oo⟩) fun nq=>?_;go_wp2_with fail;refine jA (aW _ _) ?_;go_wp2_with fail;refine jA (fH _ _) ?_;go_wp2_with fail;refine cZ (dn s b i _ (W.o.1.drewN _)) fun nq=>?_;go_wp2_with fail;refine cZ (jH s b i _ (W.o.1.drewN _)) fun nq=>?_;go_wp2_with fail;refine cZ (lF s b i _ (W.o.1.drewN _)) fun nq=>?_;go_wp2_with fail
 refine cZ (fP s b (i) _ (i+1) _ (W.o.1.drewN _) ⟨oo,oo,oo⟩) fun nq=>?_;go_wp2_with fail;refine cZ (fP s b (i) _ (i) _ (W.o.1.drewN _) ⟨oo,oo,oo⟩) fun nq=>?_;go_wp2_with fail;refine pmb (Ap s b i _ (W.o.1.drewN _) hi) fun w1 aj=>?_;have W1:Hid (aB b s (i+1) w w1):=(W.o.drewN _).trans aj;have R1:Hid (gX w1 w.heap.size):=(R.o.drewN _).turn aj.2 oo;clear aj;have r0:=R1.o.c0;have r1:=R1.o.c1;have r2:=R1.o.c2;have rf:=R1.o.f;have rl:=R1.o.lt;go_wp2_with fail;refine bodyPost_ret (v:=bF (Tok.w 15 (one s i))) (by simp[results,Tryz.results114,go_sem,bF,Tok.w,r0,r1,r2];rfl) rfl ⟨?_,?_⟩
 .rw[HV.o]
 .rw[HV.o];exact((W1.o.cu hbw nl _ _).cu hbw nl _ _).cu hbw nl _ _
theorem RH(s:BY)(b i:Nat)(w:WD)(h:Sc w b s i)(hi:i<s.size)(hbl:aO (pk s i)=false)(zX:dD (pk s i)=false)(hha:(pk s i==35)=true)(hgo:jT s (i+1)=false)(hnu:iO s i=true)(HV:Hid (token s i=Sp.numeric s i)):
  Calls prog 114 #[.pointer (some ⟨b,0,none⟩)] w fun e w'=>e=.returned (bF (token s i).1)/\aB b s (token s i).2 w w':=by
 have W:=aB.nh h;have R:=gX.nh w;have hbw:b<w.heap.size:=h.lt;have hs:s.size<=600:=h.len;have _hi:=hi;clear h;have c00:=W.o.1.c0;have c10:=W.o.1.c1;have KY:=W.o.1.f1;have KZ:=W.o.1.lt;have cs0:=W.o.1.len;have La:=W.o.1.le;go_in;go_wp2_with fail;refine cZ (ak s b (i) _ (i) _ (W.o.1) ⟨oo,oo,oo⟩) fun nq=>?_;go_wp2_with fail;refine jA (aW _ _) ?_;go_wp2_with fail;refine jA (fH _ _) ?_;go_wp2_with fail;refine cZ (kZ s b (i) _ (i+1) _ (W.o.1.drewN _) ⟨oo,oo,oo⟩) fun nq=>?_;go_wp2_with fail;refine cZ (dn s b i _ (W.o.1.drewN _)) fun nq=>?_;go_wp2_with fail;refine pmb (Nh s b i _ (W.o.1.drewN _)) fun w1 aj=>?_
 have W1:Hid (aB b s (Sp.numeric s i).2 w w1):=(W.o.drewN _).trans aj;have R1:Hid (gX w1 w.heap.size):=(R.o.drewN _).turn aj.2 oo;clear aj;have r0:=R1.o.c0;have r1:=R1.o.c1;have r2:=R1.o.c2;have rf:=R1.o.f;have rl:=R1.o.lt;unfold bF;go_wp2_with fail;refine bodyPost_ret (v:=bF ((Sp.numeric s i).1)) (by simp[results,Tryz.results114,go_sem,bF,r0,r1,r2]) rfl ⟨?_,?_⟩
 .rw[HV.o]
 .rw[HV.o];exact((W1.o.cu hbw nl _ _).cu hbw nl _ _).cu hbw nl _ _
theorem OH(s:BY)(b i:Nat)(w:WD)(h:Sc w b s i)(hi:i<s.size)(hbl:aO (pk s i)=false)(zX:dD (pk s i)=false)(hha:(pk s i==35)=true)(hgo:jT s (i+1)=false)(hnu:iO s i=false)(hs4:kG s i=true)(hl:i+4<=s.size)(HV:Hid (token s i=(Tok.k 8,i+4))):
  Calls prog 114 #[.pointer (some ⟨b,0,none⟩)] w fun e w'=>e=.returned (bF (token s i).1)/\aB b s (token s i).2 w w':=by
 have W:=aB.nh h;have R:=gX.nh w;have hbw:b<w.heap.size:=h.lt;have hs:s.size<=600:=h.len;have _hi:=hi;clear h;have c00:=W.o.1.c0;have c10:=W.o.1.c1;have KY:=W.o.1.f1;have KZ:=W.o.1.lt;have cs0:=W.o.1.len;have La:=W.o.1.le;go_in;go_wp2_with fail;refine cZ (ak s b (i) _ (i) _ (W.o.1) ⟨oo,oo,oo⟩) fun nq=>?_;go_wp2_with fail;refine jA (aW _ _) ?_;go_wp2_with fail;refine jA (fH _ _) ?_;go_wp2_with fail;refine cZ (kZ s b (i) _ (i+1) _ (W.o.1.drewN _) ⟨oo,oo,oo⟩) fun nq=>?_;go_wp2_with fail;refine cZ (dn s b i _ (W.o.1.drewN _)) fun nq=>?_;go_wp2_with fail;refine cZ (jH s b i _ (W.o.1.drewN _)) fun nq=>?_;have r0:=R.o.c0;have r1:=R.o.c1;have r2:=R.o.c2
 have rf:=R.o.f;have rl:=R.o.lt;go_wp2_with fail;refine bodyPost_ret (v:=bF (Tok.k 8)) (by simp[results,Tryz.results114,go_sem,bF,Tok.k,r0,r1,r2];rfl) rfl ⟨?_,?_⟩
 .rw[HV.o]
 .rw[HV.o];exact((((W.o.drewN _).iP _ (i+4) oo oo).cu hbw nl _ _).cu hbw nl _ _).cu hbw nl _ _
theorem Lu(s:BY)(b i:Nat)(w:WD)(h:Sc w b s i)(hi:i<s.size)(hbl:aO (pk s i)=false)(zX:dD (pk s i)=false)(hha:(pk s i==35)=true)(hgo:jT s (i+1)=false)(hnu:iO s i=false)(hs4:kG s i=false)(hs3:kL s i=true)(hl:i+3<=s.size)(HV:Hid (token s i=(Tok.k 9,i+3))):
  Calls prog 114 #[.pointer (some ⟨b,0,none⟩)] w fun e w'=>e=.returned (bF (token s i).1)/\aB b s (token s i).2 w w':=by
 have W:=aB.nh h;have R:=gX.nh w;have hbw:b<w.heap.size:=h.lt;have hs:s.size<=600:=h.len;have _hi:=hi;clear h;have c00:=W.o.1.c0;have c10:=W.o.1.c1;have KY:=W.o.1.f1;have KZ:=W.o.1.lt;have cs0:=W.o.1.len;have La:=W.o.1.le;go_in;go_wp2_with fail;refine cZ (ak s b (i) _ (i) _ (W.o.1) ⟨oo,oo,oo⟩) fun nq=>?_;go_wp2_with fail;refine jA (aW _ _) ?_;go_wp2_with fail;refine jA (fH _ _) ?_;go_wp2_with fail;refine cZ (kZ s b (i) _ (i+1) _ (W.o.1.drewN _) ⟨oo,oo,oo⟩) fun nq=>?_;go_wp2_with fail;refine cZ (dn s b i _ (W.o.1.drewN _)) fun nq=>?_;go_wp2_with fail;refine cZ (jH s b i _ (W.o.1.drewN _)) fun nq=>?_;go_wp2_with fail
 refine cZ (lF s b i _ (W.o.1.drewN _)) fun nq=>?_;have r0:=R.o.c0;have r1:=R.o.c1;have r2:=R.o.c2;have rf:=R.o.f;have rl:=R.o.lt;go_wp2_with fail;refine bodyPost_ret (v:=bF (Tok.k 9)) (by simp[results,Tryz.results114,go_sem,bF,Tok.k,r0,r1,r2];rfl) rfl ⟨?_,?_⟩
 .rw[HV.o]
 .rw[HV.o];exact((((W.o.drewN _).iP _ (i+3) oo oo).cu hbw nl _ _).cu hbw nl _ _).cu hbw nl _ _
theorem IY(s:BY)(b i:Nat)(w:WD)(h:Sc w b s i)(hi:i<s.size)(hbl:aO (pk s i)=false)(zX:dD (pk s i)=false)(hha:(pk s i==35)=true)(hgo:jT s (i+1)=false)(hnu:iO s i=false)(hs4:kG s i=false)(hs3:kL s i=false)(hat:(pk s i==64)=false)(hb0:iG s i=true)(HV:Hid (token s i=named s i)):
  Calls prog 114 #[.pointer (some ⟨b,0,none⟩)] w fun e w'=>e=.returned (bF (token s i).1)/\aB b s (token s i).2 w w':=by
 have W:=aB.nh h;have R:=gX.nh w;have hbw:b<w.heap.size:=h.lt;have hs:s.size<=600:=h.len;have _hi:=hi;clear h;have c00:=W.o.1.c0;have c10:=W.o.1.c1;have KY:=W.o.1.f1;have KZ:=W.o.1.lt;have cs0:=W.o.1.len;have La:=W.o.1.le;go_in;go_wp2_with fail;refine cZ (ak s b (i) _ (i) _ (W.o.1) ⟨oo,oo,oo⟩) fun nq=>?_;go_wp2_with fail;refine jA (aW _ _) ?_;go_wp2_with fail;refine jA (fH _ _) ?_;go_wp2_with fail;refine cZ (kZ s b (i) _ (i+1) _ (W.o.1.drewN _) ⟨oo,oo,oo⟩) fun nq=>?_;go_wp2_with fail;refine cZ (dn s b i _ (W.o.1.drewN _)) fun nq=>?_;go_wp2_with fail;refine cZ (jH s b i _ (W.o.1.drewN _)) fun nq=>?_;go_wp2_with fail
 refine cZ (lF s b i _ (W.o.1.drewN _)) fun nq=>?_;go_wp2_with fail;refine cZ (fP s b (i) _ (i) _ (W.o.1.drewN _) ⟨oo,oo,oo⟩) fun nq=>?_;go_wp2_with fail;refine pmb (OE s b i _ (W.o.1.drewN _)) fun w1 aj=>?_;have W1:Hid (aB b s (named s i).2 w w1):=(W.o.drewN _).trans aj;have R1:Hid (gX w1 w.heap.size):=(R.o.drewN _).turn aj.2 oo;clear aj;have r0:=R1.o.c0;have r1:=R1.o.c1;have r2:=R1.o.c2;have rf:=R1.o.f;have rl:=R1.o.lt;unfold bF;go_wp2_with fail;refine bodyPost_ret (v:=bF ((named s i).1)) (by simp[results,Tryz.results114,go_sem,bF,r0,r1,r2]) rfl ⟨?_,?_⟩
 .rw[HV.o]
 .rw[HV.o];exact((W1.o.cu hbw nl _ _).cu hbw nl _ _).cu hbw nl _ _
theorem LC(s:BY)(b i:Nat)(w:WD)(h:Sc w b s i)(hi:i<s.size)(hbl:aO (pk s i)=false)(zX:dD (pk s i)=false)(hha:(pk s i==35)=true)(hgo:jT s (i+1)=false)(hnu:iO s i=false)(hs4:kG s i=false)(hs3:kL s i=false)(hat:(pk s i==64)=false)(hb0:iG s i=false)(HV:Hid (token s i=(Tok.w 15 (one s i),i+1))):
  Calls prog 114 #[.pointer (some ⟨b,0,none⟩)] w fun e w'=>e=.returned (bF (token s i).1)/\aB b s (token s i).2 w w':=by
 have W:=aB.nh h;have R:=gX.nh w;have hbw:b<w.heap.size:=h.lt;have hs:s.size<=600:=h.len;have _hi:=hi;clear h;have c00:=W.o.1.c0;have c10:=W.o.1.c1;have KY:=W.o.1.f1;have KZ:=W.o.1.lt;have cs0:=W.o.1.len;have La:=W.o.1.le;go_in;go_wp2_with fail;refine cZ (ak s b (i) _ (i) _ (W.o.1) ⟨oo,oo,oo⟩) fun nq=>?_;go_wp2_with fail;refine jA (aW _ _) ?_;go_wp2_with fail;refine jA (fH _ _) ?_;go_wp2_with fail;refine cZ (kZ s b (i) _ (i+1) _ (W.o.1.drewN _) ⟨oo,oo,oo⟩) fun nq=>?_;go_wp2_with fail;refine cZ (dn s b i _ (W.o.1.drewN _)) fun nq=>?_;go_wp2_with fail;refine cZ (jH s b i _ (W.o.1.drewN _)) fun nq=>?_;go_wp2_with fail
 refine cZ (lF s b i _ (W.o.1.drewN _)) fun nq=>?_;go_wp2_with fail;refine cZ (fP s b (i) _ (i) _ (W.o.1.drewN _) ⟨oo,oo,oo⟩) fun nq=>?_;go_wp2_with fail;refine pmb (Ap s b i _ (W.o.1.drewN _) hi) fun w1 aj=>?_;have W1:Hid (aB b s (i+1) w w1):=(W.o.drewN _).trans aj;have R1:Hid (gX w1 w.heap.size):=(R.o.drewN _).turn aj.2 oo;clear aj;have r0:=R1.o.c0;have r1:=R1.o.c1;have r2:=R1.o.c2;have rf:=R1.o.f;have rl:=R1.o.lt;go_wp2_with fail;refine bodyPost_ret (v:=bF (Tok.w 15 (one s i))) (by simp[results,Tryz.results114,go_sem,bF,Tok.w,r0,r1,r2];rfl) rfl ⟨?_,?_⟩
 .rw[HV.o]
 .rw[HV.o];exact((W1.o.cu hbw nl _ _).cu hbw nl _ _).cu hbw nl _ _
theorem agm(s:BY)(b i:Nat)(w:WD)(h:Sc w b s i)(hi:i<s.size):
  Calls prog 114 #[.pointer (some ⟨b,0,none⟩)] w fun e w'=>e=.returned (bF (token s i).1)/\aB b s (token s i).2 w w':=by
 have T:token s i=token s i:=rfl;conv at T=>rhs;unfold token
 cases hbl:aO (pk s i)
 .rw[hbl]at T;cases zX:dD (pk s i)
  .rw[zX]at T;have key:∀(_:pk s i=35->jT s (i+1)=false),Calls prog 114 #[.pointer (some ⟨b,0,none⟩)] w fun e w'=>e=.returned (bF (token s i).1)/\aB b s (token s i).2 w w':=by
    intro hno;rw[if_neg (by simp),if_neg (by simp),if_neg (fun h=>by simp[hno h.1]at h)]at T;cases hnu:iO s i
    .rw[hnu,if_neg (by simp)]at T;cases hs4:kG s i
     .rw[hs4,if_neg (by simp)]at T;cases hs3:kL s i
      .rw[hs3,if_neg (by simp)]at T;by_cases hat:pk s i=64
       .have hha:(pk s i==35)=false:=by rw[hat];rfl
        have hat':(pk s i==64)=true:=by rw[hat];rfl
        cases hb1:iG s (i+1)
        .rw[if_neg (by simp[hb1])]at T;cases hb0:iG s i
         .rw[hb0,if_neg (by simp)]at T;exact Ls s b i w h hi hbl zX hha hnu hs4 hs3 hat' hb1 hb0 T
         .rw[hb0,if_pos rfl]at T;exact IX s b i w h hi hbl zX hha hnu hs4 hs3 hat' hb1 hb0 T
        .rw[if_pos ⟨hat,hb1⟩]at T;exact Wh s b i w h hi hbl zX hha hnu hs4 hs3 hat' hb1 T
       .have hat':(pk s i==64)=false:=by simpa using hat
        rw[if_neg (fun h=>hat h.1)]at T;cases hb0:iG s i
        .rw[hb0,if_neg (by simp)]at T;cases hha:(pk s i==35)
         .exact Lr s b i w h hi hbl zX hha hnu hs4 hs3 hat' hb0 T
         .exact LC s b i w h hi hbl zX hha (hno (by simpa using hha)) hnu hs4 hs3 hat' hb0 T
        .rw[hb0,if_pos rfl]at T;cases hha:(pk s i==35)
         .exact IW s b i w h hi hbl zX hha hnu hs4 hs3 hat' hb0 T
         .exact IY s b i w h hi hbl zX hha (hno (by simpa using hha)) hnu hs4 hs3 hat' hb0 T
      .have hl:i+3<=s.size:=by
        have h3:=hs3;simp[kL]at h3;have:=dY (s:=s) (i:=i+2) oo;omega
       rw[hs3,if_pos rfl]at T;cases hha:(pk s i==35)
       .exact Lp s b i w h hi hbl zX hha hnu hs4 hs3 hl T
       .exact Lu s b i w h hi hbl zX hha (hno (by simpa using hha)) hnu hs4 hs3 hl T
     .have hl:i+4<=s.size:=by
       have h4:=hs4;simp[kG]at h4;have:=dY (s:=s) (i:=i+3) oo;omega
      rw[hs4,if_pos rfl]at T;cases hha:(pk s i==35)
      .exact OG s b i w h hi hbl zX hha hnu hs4 hl T
      .exact OH s b i w h hi hbl zX hha (hno (by simpa using hha)) hnu hs4 hl T
    .rw[hnu,if_pos rfl]at T;cases hha:(pk s i==35)
     .exact RG s b i w h hi hbl zX hha hnu T
     .exact RH s b i w h hi hbl zX hha (hno (by simpa using hha)) hnu T
   by_cases hha:pk s i=35
   .cases hgo:jT s (i+1)
    .exact key (fun _=>hgo)
    .rw[if_neg (by simp),if_neg (by simp),if_pos ⟨hha,hgo⟩]at T;exact V9 s b i w h hi hbl zX (by rw[hha];rfl) hgo T
   .exact key (fun h=>absurd h hha)
  .rw[zX,if_neg (by simp),if_pos rfl]at T;exact V8 s b i w h hi hbl zX T
 .rw[hbl,if_pos rfl]at T;exact RF s b i w h hi hbl T
def Vg(l:List UInt8):List Av:=l.map fun b=>Value.int .u8 (b.toNat:Int)
theorem rG(a b:List UInt8):Vg (a++b)=Vg a++Vg b:=by simp[Vg]
theorem rH(n:Int):∀u∈[Value.int .u8 n],u.oneCell'=true:=by simp[Value.oneCell']
theorem agn(s:BY)(i:Nat):(ZO s i).length<=1:=by
 unfold ZO;split
 .split
  .simp
  .split
   .simp
   .split<;>simp
 .simp
theorem xZ(s:BY):∀k,(bC s k).length<=k
 |0=>by simp[bC]
 |k+1=>by have:=xZ s k;have:=agn s k;simp[bC];omega
theorem oZ(s:BY):(clean s).size<=s.size:=by have:=xZ s s.size;show(bC s s.size).toArray.size<=s.size;simpa using this
theorem byte_at{s:BY}{k:Nat}(h:k<s.size)(n:Nat)(hn:n<256):s[k]=UInt8.ofNat n↔pk s k=(n:Int):=by
 rw[zK h];constructor
 .intro e;rw[e];simp;omega
 .intro e;apply UInt8.toNat_inj.1
  simp;omega
theorem b13{s:BY}{k:Nat}(h:k<s.size):s[k]=13↔pk s k=13:=byte_at h 13 oo
theorem b12{s:BY}{k:Nat}(h:k<s.size):s[k]=12↔pk s k=12:=byte_at h 12 oo
theorem b00{s:BY}{k:Nat}(h:k<s.size):s[k]=0↔pk s k=0:=byte_at h 0 oo
theorem OI{s:BY}{k:Nat}(h:k<s.size):ZO s k=if pk s k=13/\pk s (k+1)=10 then [] else if pk s k=13\/pk s k=12 then [10] else if pk s k=0 then [63] else [s[k]]:=by unfold ZO;rw[dif_pos h];simp only[b13 h,b12 h,b00 h]
theorem acS{s:BY}{k:Nat}(h:k<s.size)(h1:pk s k=13)(h2:pk s (k+1)=10):ZO s k=[]:=by rw[OI h,if_pos ⟨h1,h2⟩]
theorem IZ{s:BY}{k:Nat}(h:k<s.size)(h1:pk s k=13\/pk s k=12)(h2:¬(pk s k=13/\pk s (k+1)=10)):ZO s k=[10]:=by rw[OI h,if_neg h2,if_pos h1]
theorem agp{s:BY}{k:Nat}(h:k<s.size)(h1:pk s k=0):ZO s k=[63]:=by rw[OI h,if_neg oo,if_neg oo,if_pos h1]
theorem acT{s:BY}{k:Nat}(h:k<s.size)(h1:pk s k≠13)(h2:pk s k≠12)(h3:pk s k≠0):ZO s k=[s[k]]:=by rw[OI h,if_neg oo,if_neg oo,if_neg h3]
theorem agq(s:BY)(w:WD)(hs:s.size<=600):
  Calls prog 111 #[.string s] w fun e w'=>e=.returned (.string (Sp.clean s))/\Below w.heap.size w w':=by
 obtain⟨iU,hiU,hzU,hsU,hbU⟩:=info_u8;have HI:Hid (prog.info? 5=some iU/\iU.zero=some (.int .u8 0)/\iU.size=1/\iU.bytes=1):=⟨hiU,hzU,hsU,hbU⟩;clear hiU hzU hsU hbU;go_in;go_wp2_with(at_make;refine wpList_make_own _ rfl _ _ 145 rfl w.heap.size 5 iU (.int .u8 0) 1 Tryz.underlying145 HI.o.1 HI.o.2.1 HI.o.2.2.1 _ _ _ s.size rfl rfl rfl ?_ ?_ ?_ ?_)
 .rw[HI.o.2.2.2];omega
 .unfold maxLen;omega
 .exact Nat.le_refl _
 intro w1 hown1 Qx;have HB1:Hid (Below w.heap.size w w1):=As.grown Qx nl (fun _ h=>by cases h);have uS:Hid (w1.ownsRow w.heap.size 5 1 (.slice (some ⟨w.heap.size,0,none⟩) 0 s.size) 0 []):=hown1;clear hown1 Qx;go_wp2_with fail;go_loopg[3,11] s.size (fun g v3 v11 wr=>∃(v:Av) (k:Nat),v=v3/\k+g=s.size/\v11=.int .i64 (k:Int)/\Aside (wr.ownsRow w.heap.size 5 1 v (bC s k).length (Vg (bC s k))/\Below w.heap.size w wr));case atStart=>exact⟨_,0,rfl,oo,rfl,uS.o,HB1.o⟩
 case round=>
  obtain⟨v3,k,rfl,hk,rfl,hA⟩:=hrel;have HO:Hid (wr.ownsRow w.heap.size 5 1 v3 (bC s k).length (Vg (bC s k))):=hA.o.1;have HB:=hid hA.o.2;clear hA;have hcl:=xZ s k;by_cases hlt:k<s.size
  .have hix:=gQ s k hlt;have hsz:=HB.o.size;have hnn:=tK hlt;have hhi:=Yj s k;have HT:Hid (bC s (k+1)=bC s k++ZO s k):=rfl;by_cases h13:pk s k=13
   .have e1:(pk s k==13)=true:=by rw[h13];rfl
    by_cases hnx:k+1<s.size
    .have amI:(k:Int)+1<(s.size:Int):=oo;have hix2:∀w:WD,(Instr.index 9 (.string s) (.int .i64 ((k:Int)+1))).run prog w=.ok (.int .u8 (pk s (k+1))) w:=fun w=>gQ s (k+1) hnx w;by_cases h10:pk s (k+1)=10
     .have e2:(pk s (k+1)==10)=true:=by rw[h10];rfl
      have HC:Hid (bC s (k+1)=bC s k):=by show _=_;rw[HT.o,acS hlt h13 h10,List.append_nil]
      clear h13 h10;go_wp2_with fail;go_roundg(gk-1);case measure=>omega
      case rel=>exact⟨v3,k+1,rfl,oo,by congr 1,by rw[HC.o];exact HO.o,HB.o⟩
     .have e2:(pk s (k+1)==10)=false:=by simpa using h10
      have HC:Hid (bC s (k+1)=bC s k++[10]):=by show _=_;rw[HT.o,IZ hlt (.inl h13) (fun h=>h10 h.2)]
      clear h13 h10;go_wp2_with(at_builtin;refine wpList_append_own _ rfl _ _ 145 rfl w.heap.size 5 iU (.int .u8 0) 1 1 Tryz.underlying145 HI.o.1 HI.o.2.1 HI.o.2.2.1 HI.o.2.2.2 rfl oo v3 (bC s k).length (Vg (bC s k)) rfl (HO.o.alloc _) ⟨wr.heap.size,0,none⟩ 1 1 [.int .u8 (10)] rfl rfl (cell_one_new _ _ _) (rH _) ?_ ?_ ?_ ?_)
      .unfold maxLen;omega
      .omega
      .first|omega|(simp;omega)
      intro v4 w2 hown2 jk _;have FW:Hid (w2.ownsRow w.heap.size 5 1 v4 ((bC s k).length+1) (Vg (bC s k)++[.int .u8 (10)])):=hown2;have HB2:Hid (Below w.heap.size w w2):=(HB.o.alloc hsz _).grown jk (by first|omega|(simp;omega)) (fun r hr=>(HO.o.lt r hr).1);clear hown2 jk;go_wp2_with fail;go_roundg(gk-1);case measure=>omega
      case rel=>refine⟨v4,k+1,rfl,oo,by congr 1,?_,HB2.o⟩;rw[HC.o,rG,List.length_append];exact FW.o
    .have amI:(s.size:Int)<=(k:Int)+1:=oo;have HC:Hid (bC s (k+1)=bC s k++[10]):=by show _=_;rw[HT.o,IZ hlt (.inl h13) (fun h=>by have:=dY (s:=s) (i:=k+1) oo;omega)]
     clear h13;go_wp2_with(at_builtin;refine wpList_append_own _ rfl _ _ 145 rfl w.heap.size 5 iU (.int .u8 0) 1 1 Tryz.underlying145 HI.o.1 HI.o.2.1 HI.o.2.2.1 HI.o.2.2.2 rfl oo v3 (bC s k).length (Vg (bC s k)) rfl (HO.o.alloc _) ⟨wr.heap.size,0,none⟩ 1 1 [.int .u8 (10)] rfl rfl (cell_one_new _ _ _) (rH _) ?_ ?_ ?_ ?_)
     .unfold maxLen;omega
     .omega
     .first|omega|(simp;omega)
     intro v4 w2 hown2 jk _;have FW:Hid (w2.ownsRow w.heap.size 5 1 v4 ((bC s k).length+1) (Vg (bC s k)++[.int .u8 (10)])):=hown2;have HB2:Hid (Below w.heap.size w w2):=(HB.o.alloc hsz _).grown jk (by first|omega|(simp;omega)) (fun r hr=>(HO.o.lt r hr).1);clear hown2 jk;go_wp2_with fail;go_roundg(gk-1);case measure=>omega
     case rel=>refine⟨v4,k+1,rfl,oo,by congr 1,?_,HB2.o⟩;rw[HC.o,rG,List.length_append];exact FW.o
   .have e1:(pk s k==13)=false:=by simpa using h13
    by_cases h12:pk s k=12
    .have e2:(pk s k==12)=true:=by rw[h12];rfl
     have HC:Hid (bC s (k+1)=bC s k++[10]):=by show _=_;rw[HT.o,IZ hlt (.inr h12) (fun h=>h13 h.1)]
     clear h13 h12;go_wp2_with(at_builtin;refine wpList_append_own _ rfl _ _ 145 rfl w.heap.size 5 iU (.int .u8 0) 1 1 Tryz.underlying145 HI.o.1 HI.o.2.1 HI.o.2.2.1 HI.o.2.2.2 rfl oo v3 (bC s k).length (Vg (bC s k)) rfl (HO.o.alloc _) ⟨wr.heap.size,0,none⟩ 1 1 [.int .u8 (10)] rfl rfl (cell_one_new _ _ _) (rH _) ?_ ?_ ?_ ?_)
     .unfold maxLen;omega
     .omega
     .first|omega|(simp;omega)
     intro v4 w2 hown2 jk _;have FW:Hid (w2.ownsRow w.heap.size 5 1 v4 ((bC s k).length+1) (Vg (bC s k)++[.int .u8 (10)])):=hown2;have HB2:Hid (Below w.heap.size w w2):=(HB.o.alloc hsz _).grown jk (by first|omega|(simp;omega)) (fun r hr=>(HO.o.lt r hr).1);clear hown2 jk;go_wp2_with fail;go_roundg(gk-1);case measure=>omega
     case rel=>refine⟨v4,k+1,rfl,oo,by congr 1,?_,HB2.o⟩;rw[HC.o,rG,List.length_append];exact FW.o
    .have e2:(pk s k==12)=false:=by simpa using h12
     by_cases h0:pk s k=0
     .have e3:(pk s k==0)=true:=by rw[h0];rfl
      have HC:Hid (bC s (k+1)=bC s k++[63]):=by show _=_;rw[HT.o,agp hlt h0]
      clear h13 h12 h0;go_wp2_with(at_builtin;refine wpList_append_own _ rfl _ _ 145 rfl w.heap.size 5 iU (.int .u8 0) 1 1 Tryz.underlying145 HI.o.1 HI.o.2.1 HI.o.2.2.1 HI.o.2.2.2 rfl oo v3 (bC s k).length (Vg (bC s k)) rfl (HO.o.alloc _) ⟨wr.heap.size,0,none⟩ 1 1 [.int .u8 (63)] rfl rfl (cell_one_new _ _ _) (rH _) ?_ ?_ ?_ ?_)
      .unfold maxLen;omega
      .omega
      .first|omega|(simp;omega)
      intro v4 w2 hown2 jk _;have FW:Hid (w2.ownsRow w.heap.size 5 1 v4 ((bC s k).length+1) (Vg (bC s k)++[.int .u8 (63)])):=hown2;have HB2:Hid (Below w.heap.size w w2):=(HB.o.alloc hsz _).grown jk (by first|omega|(simp;omega)) (fun r hr=>(HO.o.lt r hr).1);clear hown2 jk;go_wp2_with fail;go_roundg(gk-1);case measure=>omega
      case rel=>refine⟨v4,k+1,rfl,oo,by congr 1,?_,HB2.o⟩;rw[HC.o,rG,List.length_append];exact FW.o
     .have e3:(pk s k==0)=false:=by simpa using h0
      have HC:Hid (bC s (k+1)=bC s k++[s[k]]):=by show _=_;rw[HT.o,acT hlt h13 h12 h0]
      have HP:Hid (pk s k=(s[k].toNat:Int)):=zK hlt;clear h13 h12 h0;go_wp2_with(at_builtin;refine wpList_append_own _ rfl _ _ 145 rfl w.heap.size 5 iU (.int .u8 0) 1 1 Tryz.underlying145 HI.o.1 HI.o.2.1 HI.o.2.2.1 HI.o.2.2.2 rfl oo v3 (bC s k).length (Vg (bC s k)) rfl (HO.o.alloc _) ⟨wr.heap.size,0,none⟩ 1 1 [.int .u8 (pk s k)] rfl rfl (cell_one_new _ _ _) (rH _) ?_ ?_ ?_ ?_)
      .unfold maxLen;omega
      .omega
      .first|omega|(simp;omega)
      intro v4 w2 hown2 jk _;have FW:Hid (w2.ownsRow w.heap.size 5 1 v4 ((bC s k).length+1) (Vg (bC s k)++[.int .u8 (pk s k)])):=hown2;have HB2:Hid (Below w.heap.size w w2):=(HB.o.alloc hsz _).grown jk (by first|omega|(simp;omega)) (fun r hr=>(HO.o.lt r hr).1);clear hown2 jk;go_wp2_with fail;go_roundg(gk-1);case measure=>omega
      case rel=>refine⟨v4,k+1,rfl,oo,by congr 1,?_,HB2.o⟩;rw[HC.o,rG,List.length_append];have h2:=FW.o;rw[HP.o]at h2;exact h2
  .have hcv:(convert 145 9 v3).run prog wr=.ok (.string (Sp.clean s)) wr:=by
    have e:k=s.size:=oo;have h1:=HO.o;rw[e]at h1;exact conv_own (P:=prog) wr 145 9 5 Tryz.underlying145 Tryz.underlying5 Tryz.underlying9 (bC s s.size) h1
   go_wp2_with fail;go_ret;exact⟨rfl,HB.o⟩
end Go.Proofs.YtlliliddljkbfaaGreat
namespace Go.Proofs.YtlliliddljkbfaaGreat
open Go Go.Conc Go.RowKit
def YJ(P:Program)(c:Code)(Q:Exit->Act->World->Prop)(a:Act)(w:World):Prop:=∀(b:Frame) (k:List Item) (cs:List Frame),b.kind≠.early->∃e a' w',Q e a' w'/\Arrives P (lone (b.at a (.code c::k)) cs w) b k cs e a' w'
section
variable {P:Program} {Q:Exit->Act->World->Prop} {a:Act} {w:World}
theorem jI{c:Code}(h:c.wp P Q a w):YJ P c Q a w:=fun b k cs _=>h b k cs
theorem nN{x y:Code}(h:YJ P x (Exit.then (YJ P y Q) Q) a w):YJ P (.seq x y) Q a w:=by
 intro b k cs hb;obtain⟨e,a1,w1,hq,harr⟩:=h b (.code y::k) cs hb;have s0:Steps P (lone (b.at a (.code (.seq x y)::k)) cs w) (lone (b.at a (.code x :: .code y::k)) cs w):=.one step_seq;cases e with
 |normal=>obtain⟨e2,a2,w2,hq2,C9⟩:=hq b k cs hb;exact⟨e2,a2,w2,hq2,.of_steps (s0.trans harr) C9⟩
 |exit id=>exact⟨_,a1,w1,hq,.of_steps s0 (.pass (x:=.code y) rfl (fun _ _=>.inl (by simp)) harr)⟩
 |goto l=>exact⟨_,a1,w1,hq,.of_steps s0 (.pass (x:=.code y) rfl (fun _ _=>.inl (by simp)) harr)⟩
 |ret=>exact⟨_,a1,w1,hq,.of_steps s0 (.pass (x:=.code y) rfl (fun _ _=>.inl (by simp)) harr)⟩
 |panic ch=>exact⟨_,a1,w1,hq,.of_steps s0 (.pass (x:=.code y) rfl (fun _ _=>.inl (by simp)) harr)⟩
 |outgrown=>exact⟨_,a1,w1,hq,.of_steps s0 (.pass (x:=.code y) rfl (fun _ _=>.inl (by simp)) harr)⟩
theorem Et{id:Nat}{c:Code}(h:YJ P c (Exit.inBlock id Q) a w):YJ P (.block id c) Q a w:=by
 intro b k cs hb;obtain⟨e,a1,w1,hq,harr⟩:=h b (.inBlock id::k) cs hb;have s0:Steps P (lone (b.at a (.code (.block id c)::k)) cs w) (lone (b.at a (.code c :: .inBlock id::k)) cs w):=.one step_block;cases e with
 |normal=>exact⟨.normal,a1,w1,hq,(s0.trans harr).trans (.one step_inBlock)⟩
 |exit j=>
  by_cases hj:j=id
  .subst hj;have hq':Q .normal a1 w1:=by simpa[Exit.inBlock]using hq
   exact⟨.normal,a1,w1,hq',s0.trans (harr k (by simp[exitTo]))⟩
  .have hq':Q (.exit j) a1 w1:=by simpa[Exit.inBlock,hj]using hq
   refine⟨.exit j,a1,w1,hq',fun k' hk=>s0.trans (harr k' ?_)⟩;have hj':¬id=j:=fun e=>hj e.symm;simp[exitTo,hj',hk]
 |goto l=>exact⟨.goto l,a1,w1,hq,fun k' hk=>s0.trans (harr k' (by simpa[gotoIn]using hk))⟩
 |ret=>exact⟨.ret,a1,w1,hq,.of_steps s0 harr⟩
 |panic ch=>exact⟨.panic ch,a1,w1,hq,.of_steps s0 harr⟩
 |outgrown=>exact⟨.outgrown,a1,w1,hq,.of_steps (b:=b) (k:=k) (cs:=cs) (e:=.outgrown) s0 harr⟩
theorem RI{c:Code}(I:Nat->Act->World->Prop)(n:Nat)(h0:I n a w)
  (round:∀n a w,I n a w->YJ P c (Exit.then (fun a' w'=>∃n',n'<n/\I n' a' w') Q) a w):YJ P (.loop c) Q a w:=by
 intro b k cs hb;have key:∀n a w,I n a w->∃e a' w',Q e a' w'/\Arrives P (lone (b.at a (.code c :: .inLoop c::k)) cs w) b k cs e a' w':=by
  intro n;induction n using Nat.strongRecOn with
  |_ n ih=>
   intro a w hI;obtain⟨e,a1,w1,hq,harr⟩:=round n a w hI b (.inLoop c::k) cs hb;cases e with
   |normal=>obtain⟨n',hlt,hI'⟩:=hq;obtain⟨e2,a2,w2,hq2,C9⟩:=ih n' hlt a1 w1 hI';exact⟨e2,a2,w2,hq2,.of_steps (Steps.trans harr (.one step_inLoop)) C9⟩
   |exit id=>exact⟨_,a1,w1,hq,.pass (x:=.inLoop c) rfl (fun _ _=>.inl (by simp)) harr⟩
   |goto l=>exact⟨_,a1,w1,hq,.pass (x:=.inLoop c) rfl (fun _ _=>.inl (by simp)) harr⟩
   |ret=>exact⟨_,a1,w1,hq,.pass (x:=.inLoop c) rfl (fun _ _=>.inl (by simp)) harr⟩
   |panic ch=>exact⟨_,a1,w1,hq,.pass (x:=.inLoop c) rfl (fun _ _=>.inl (by simp)) harr⟩
   |outgrown=>exact⟨_,a1,w1,hq,.pass (x:=.inLoop c) rfl (fun _ _=>.inl (by simp)) harr⟩
 obtain⟨e,a',w',hq,harr⟩:=key n a w h0;exact⟨e,a',w',hq,.of_steps (.one step_loop) harr⟩
theorem LD{c:Code}(h:∀Q':Exit->Act->World->Prop,Fwd P c Q Q'->YJ P c Q' a w):YJ P (.scope c) Q a w:=by
 have h':=h (akK P c Q) ⟨fun l rest a w hf hr=>⟨rest,hf,hr⟩,fun a w hq=>hq,fun a w hq=>hq,fun e a w hq=>by cases e<;>first|exact hq|exact hq.elim⟩;intro b k cs hb;obtain⟨e,a1,w1,hq,harr⟩:=h' b (.inScope c::k) cs hb;cases e with
 |normal=>exact⟨.normal,a1,w1,hq,.head step_scope (Steps.trans harr (.one step_inScope))⟩
 |exit id=>exact⟨.exit id,a1,w1,hq,fun k' hk=>.head step_scope (harr k' (by simp[exitTo,hk]))⟩
 |goto l=>
  obtain⟨rest,hf,hr⟩:=hq;have hg:gotoIn l (.inScope c::k)=some (.code rest :: .inScope c::k):=by simp[gotoIn,hf]
  obtain⟨e2,a2,w2,hq2,C9⟩:=hr b (.inScope c::k) cs;have hs:=Steps.head (P:=P) step_scope (harr _ hg);cases e2 with
  |normal=>exact⟨.normal,a2,w2,hq2,Steps.trans hs (Steps.trans C9 (.one step_inScope))⟩
  |exit id=>exact⟨.exit id,a2,w2,hq2,fun k' hk=>Steps.trans hs (C9 k' (by simp[exitTo,hk]))⟩
  |goto l'=>exact hq2.elim
  |ret=>exact⟨_,a2,w2,hq2,.of_steps hs C9⟩
  |panic ch=>exact⟨_,a2,w2,hq2,.of_steps hs C9⟩
  |outgrown=>exact⟨_,a2,w2,hq2,.of_steps hs C9⟩
 |ret=>exact⟨_,a1,w1,hq,.of_steps (.one step_scope) harr⟩
 |panic ch=>exact⟨_,a1,w1,hq,.of_steps (.one step_scope) harr⟩
 |outgrown=>exact⟨_,a1,w1,hq,.of_steps (.one step_scope) harr⟩
theorem Dc{f:FuncId}{fn:Func}{c:Code}{args:Array Value}{R:Ending->World->Prop}
  (hf:P.funcs[f]?=some fn) (hb:fn.body=some c)
  (h:YJ P c (bodyPost P fn R) { tmps:=args++Array.replicate (fn.ntmps-args.size) undef,defers:=[] } w):Calls P f args w R:=by
 intro cs;let b:Frame:={ (default:Frame)with fn:=f,kind:=.normal }
 have henter:Frame.enter P f args .normal=b.at { tmps:=args++Array.replicate (fn.ntmps-args.size) undef,defers:=[] } [.code c]:=by simp[Frame.enter,Frame.at,hf,hb,b]
 obtain⟨e,a',w',hq,harr⟩:=h b [] cs (by simp[b]);rw[<-henter]at harr;cases e with
 |normal=>obtain⟨hd,v,hr,hR⟩:=hq;exact⟨.returned v,w',_,hR,Steps.trans harr (.one step_end),rfl,rfl,hd,rfl,fn,hf,hr⟩
 |ret=>obtain⟨hd,v,hr,hR⟩:=hq;obtain⟨todo,hs⟩:=harr;exact⟨.returned v,w',_,hR,hs,rfl,rfl,hd,rfl,fn,hf,hr⟩
 |panic chain=>obtain⟨hd,hR⟩:=hq;obtain⟨todo,hs⟩:=harr;exact⟨.panicked chain,w',_,hR,hs,rfl,rfl,hd,fn,hf⟩
 |exit id=>exact hq.elim
 |goto l=>exact hq.elim
 |outgrown=>exact⟨.outgrown,w',b,hq,harr.resolve_left (by simp[b]),rfl,trivial⟩
def Left(P:Program)(ops:Array Oper)(Q:Exit->Act->World->Prop)(l:List Nat)(a:Act)(w:World):Prop:=∀(b:Frame) (k:List Item) (cs:List Frame),b.kind≠.early->∃e a' w',Q e a' w'/\Arrives P (lone (b.at a (.inRegion ops l::k)) cs w) b k cs e a' w'
variable {ops:Array Oper} {i:Nat} {rest:List Nat} {o:Oper}
theorem I9{id:Nat}(h:Left P ops Q (List.range ops.size) a w):YJ P (.region id ops false) Q a w:=by intro b k cs hb;obtain⟨e,a1,w1,hq,harr⟩:=h b k cs hb;exact⟨e,a1,w1,hq,.of_steps (.one step_region) harr⟩
theorem left_nil(h:Q .normal a w):Left P ops Q [] a w:=fun _ _ _ _=>⟨.normal,a,w,h,.one step_region_end⟩
theorem AQ{v:Value}{w':World}(ho:ops[i]?=some o)(hw:Region.wanted o (yielded ops a.tmps)=true)(hr:(execOp a.eval o).run P w=.ok (.value v) w')
  (h:Left P ops Q rest (a.put o.dst v) w'):Left P ops Q (i::rest) a w:=by
 intro b k cs hb;obtain⟨e,a1,w1,hq,harr⟩:=h b k cs hb;have hg:=stepG_op (P:=P) (b:=b) (k:=k) (cs:=cs) (w:=w) (rest:=rest) ho hw;have hfin:(b.at a (.inRegion ops (i::rest)::k)).finish v=b.at (a.put o.dst v) (.inRegion ops rest::k):=by rw[Frame.finish_at,ho];rfl
 refine⟨e,a1,w1,hq,.of_steps (.one (step_lone_go ?_)) harr⟩;rw[hg,<-hfin];simp[stepG.apply,hr]
theorem aav{f:FuncId}{args:Array Value}{w':World}{S:Value->World->Prop}(ho:ops[i]?=some o)(hw:Region.wanted o (yielded ops a.tmps)=true)(hr:(execOp a.eval o).run P w=.ok (.enter f args) w')
  (hc:Calls P f args w' fun e w2=>∃v,e=.returned v/\S v w2)
  (h:∀v w2,S v w2->Left P ops Q rest (a.put o.dst v) w2):Left P ops Q (i::rest) a w:=by
 intro b k cs hb;obtain⟨e,w2,fr,⟨v,rfl,hS⟩,hsteps,_,hleave⟩:=hc (b.at a (.inRegion ops (i::rest)::k)::cs);obtain⟨e,a1,w1,hq,harr⟩:=h v w2 hS b k cs hb;have hg:=stepG_op (P:=P) (b:=b) (k:=k) (cs:=cs) (w:=w) (rest:=rest) ho hw;have hfin:(b.at a (.inRegion ops (i::rest)::k)).finish v=b.at (a.put o.dst v) (.inRegion ops rest::k):=by rw[Frame.finish_at,ho];rfl
 have henter:step P (lone (b.at a (.inRegion ops (i::rest)::k)) cs w)=.next (lone (Frame.enter P f args .normal) (b.at a (.inRegion ops (i::rest)::k)::cs) w'):=step_lone_go (by rw[hg];simp[stepG.apply,hr,Frame.at])
 refine⟨e,a1,w1,hq,.of_steps (.head henter (Steps.trans hsteps (.one ?_))) harr⟩;rw[<-hfin];exact step_leave_returned hleave
theorem aaw{c cap s r:Nat}{buf:Array Value}{v z':Value}{tm:Bool}{w1:World}(ho:ops[i]?=some o)(hw:Region.wanted o (yielded ops a.tmps)=true)
  (hr:(execOp a.eval o).run P w=.ok (.comm #[scase c v z'] true .send) w1) (hc:w1.heap[c]?=some (.chan cap buf false s r tm)) (hroom:buf.size<cap)
  (h:Left P ops Q rest (a.put o.dst undef) (w1.setChan c cap (buf.push v) false (s+1) r tm)):Left P ops Q (i::rest) a w:=by
 intro b k cs hb;obtain⟨e,a1,w2,hq,harr⟩:=h b k cs hb;have hfin:(b.at a (.inRegion ops (i::rest)::k)).finish undef=b.at (a.put o.dst undef) (.inRegion ops rest::k):=by rw[Frame.finish_at,ho];rfl
 have hst:=step_lone_send_room (P:=P) (cs:=cs) (stepG_comm (main:=true) (cs:=cs) (k:=k) (rest:=rest) ho hw hb hr) hc hroom;rw[hfin]at hst;exact⟨e,a1,w2,hq,.of_steps (.one hst) harr⟩
theorem aax{c cap s r:Nat}{buf:Array Value}{z:Value}{tm closed:Bool}{w1:World}(ho:ops[i]?=some o)(hw:Region.wanted o (yielded ops a.tmps)=true)
  (hr:(execOp a.eval o).run P w=.ok (.comm #[rcase c z] true (.recv true)) w1) (hc:w1.heap[c]?=some (.chan cap buf closed s r tm)) (hsome:0<buf.size)
  (h:Left P ops Q rest (a.put o.dst (.tuple #[buf.getD 0 undef,.bool true])) (w1.setChan c cap (buf.extract 1 buf.size) closed s (r+1) tm)):Left P ops Q (i::rest) a w:=by
 intro b k cs hb;obtain⟨e,a1,w2,hq,harr⟩:=h b k cs hb;have hfin:(b.at a (.inRegion ops (i::rest)::k)).finish (got true (buf.getD 0 undef) true)=b.at (a.put o.dst (.tuple #[buf.getD 0 undef,.bool true])) (.inRegion ops rest::k):=by rw[Frame.finish_at,ho];rfl
 have hst:=step_lone_recv_buf (P:=P) (cs:=cs) true (stepG_comm (main:=true) (cs:=cs) (k:=k) (rest:=rest) ho hw hb hr) hc hsome;rw[hfin]at hst;exact⟨e,a1,w2,hq,.of_steps (.one hst) harr⟩
theorem Ja{c cap s r:Nat}{z:Value}{tm:Bool}{w1:World}(ho:ops[i]?=some o)(hw:Region.wanted o (yielded ops a.tmps)=true)
  (hr:(execOp a.eval o).run P w=.ok (.comm #[rcase c z] true (.recv true)) w1) (hc:w1.heap[c]?=some (.chan cap #[] true s r tm))
  (h:Left P ops Q rest (a.put o.dst (.tuple #[z,.bool false])) w1):Left P ops Q (i::rest) a w:=by
 intro b k cs hb;obtain⟨e,a1,w2,hq,harr⟩:=h b k cs hb;have hfin:(b.at a (.inRegion ops (i::rest)::k)).finish (got true z false)=b.at (a.put o.dst (.tuple #[z,.bool false])) (.inRegion ops rest::k):=by rw[Frame.finish_at,ho];rfl
 have hst:=step_lone_recv_shut (P:=P) (cs:=cs) true (stepG_comm (main:=true) (cs:=cs) (k:=k) (rest:=rest) ho hw hb hr) hc;rw[hfin]at hst;exact⟨e,a1,w2,hq,.of_steps (.one hst) harr⟩
end
end Go.Proofs.YtlliliddljkbfaaGreat
namespace Go.Proofs.YtlliliddljkbfaaGreat
open Go.Proofs.Tryz (prog)
open Go.RowKit Go.Conc Sp
theorem acU:∃i,prog.info? 93=some i/\i.bytes=40:=by obtain⟨i,h1,_,_,h4⟩:=info_tok;exact⟨i,h1,h4⟩
theorem aji(n:Nat)(hn:n<=600)(w:World):(Instr.makeChan 202 (.int .i64 (n:Int))).run prog w=.ok (.chan (some w.heap.size)) (w.alloc (.chan n #[] false 0 0 false)):=by obtain⟨i,hi,hb⟩:=acU;exact run_makeChan (P:=prog) (w:=w) Tryz.underlying202 hi .i64 n oo (by rw[hb];omega)
structure iJ(w wr:World)(b c:Nat)(s:ByteArray)(k:Nat)(ts:List Tok):Prop where
 sc:Sc wr b s k
 chan:wr.heap[c]?=some (.chan s.size (ts.map bF).toArray false ts.length 0 false)
 below:Below w.heap.size w wr
 ne:b≠c
 lob:w.heap.size<=b
 loc:w.heap.size<=c
 c0:0<c
theorem iJ.clt{w wr:World}{b c:Nat}{s:ByteArray}{k:Nat}{ts:List Tok}(h:iJ w wr b c s k ts):c<wr.heap.size:=(Ax h.chan)
theorem iJ.went{w wr w':World}{b c:Nat}{s:ByteArray}{k j:Nat}{ts:List Tok}(h:iJ w wr b c s k ts)(hw:aB b s j wr w'):iJ w w' b c s j ts:=⟨hw.1,by rw[hw.2.block c h.clt h.ne.symm];exact h.chan,h.below.trans (hw.2.below h.lob h.below.size),h.ne,h.lob,h.loc,h.c0⟩
theorem iJ.drewN{w wr:World}{b c:Nat}{s:ByteArray}{k:Nat}{ts:List Tok}(h:iJ w wr b c s k ts)(n:Nat):iJ w (wr.drewN n) b c s k ts:=h.went ((aB.refl h.sc).drewN n)
theorem jQ(w:World)(c cap:Nat)(buf:Array Value)(cl:Bool)(s r:Nat)(tm:Bool){j:Nat}(h:j≠c):(w.setChan c cap buf cl s r tm).heap[j]?=w.heap[j]?:=by simp only[World.setChan];rw[Array.getElem?_setIfInBounds_ne oo]
theorem iJ.sent{w wr:World}{b c:Nat}{s:ByteArray}{k:Nat}{ts:List Tok}(h:iJ w wr b c s k ts)(t:Tok):
  iJ w (wr.setChan c s.size ((ts.map bF).toArray.push (bF t)) false (ts.length+1) 0 false) b c s k (ts++[t]):=by
 have hc:=h.c0;refine⟨⟨?_,?_,h.sc.pos,h.sc.len,h.sc.le⟩,?_,below_setChan h.below h.loc _ _ _ _ _ _,h.ne,h.lob,h.loc,h.c0⟩
 .rw[jQ _ _ _ _ _ _ _ _ h.ne];exact h.sc.blk
 .obtain⟨m,hm⟩:=h.sc.glob;exact⟨m,by rw[<-hm];exact World.cell?_of_block (w:=wr) (jQ _ _ _ _ _ _ _ _ (by show(0:Nat)≠c;omega))⟩
 .rw[heap_setChan _ _ _ _ _ _ _ _ h.clt];simp
theorem Df(zM:ByteArray)(w:World)(hs:zM.size<=600)(hg:∃m,w.cell? ⟨0,0,none⟩=some (.int .i64 m))(h0:0<w.heap.size):
  Calls prog 68 #[.string zM] w fun e w'=>∃c cap n,e=.returned (.chan (some c))/\w.heap.size<=c/\w'.heap[c]?=some (.chan cap ((toks (Sp.clean zM)).map bF).toArray true n 0 false)/\Below w.heap.size w w':=by
 have hcs:=oZ zM;have HG:=hid hg;clear hg;refine Dc Tryz.func68 rfl ?_;simp only[Tryz.ntmps68,List.size_toArray,List.length_cons,List.length_nil,Nat.reduceAdd,Nat.reduceSub,Array.replicate_succ,
   Array.replicate_zero,List.push_toArray,List.append_toArray,List.nil_append,List.cons_append]
 refine nN (jI ?_);go_wp2_with fail;refine LD (fun Q' hF=>?_);refine nN (jI ?_);go_wp2_with fail;refine pmb (agq zM w hs) fun w1 hb1=>?_;obtain⟨s,HS⟩:∃s,Hid (Sp.clean zM=s):=⟨_,rfl⟩;rw[HS.o]at hcs⊢;have HB1:=hid hb1;clear hb1;go_wp2_with fail;refine nN (jI ?_);have hmc:=aji s.size oo;go_wp2_with fail;have hw1:w.heap.size<=w1.heap.size:=HB1.o.size;have S0:Hid (iJ w ((w1.alloc (.cells #[.string s,.int .i64 0] 201)).alloc (.chan s.size #[] false 0 0 false)) w1.heap.size (w1.heap.size+1) s 0 []):=by
  refine⟨⟨?_,?_,oo,oo,oo⟩,?_,?_,oo,oo,oo,oo⟩
  .rw[Below.heap_alloc _ _ _ (by simp)];exact heap_alloc_new w1 _
  .obtain⟨m,hm⟩:=HG.o;refine⟨m,?_⟩;rw[<-hm];exact((HB1.o.alloc hw1 _).alloc (by simp;omega) _).cell (p:=⟨0,0,none⟩) h0
  .have:=heap_alloc_new (w1.alloc (.cells #[.string s,.int .i64 0] 201)) (.chan s.size #[] false 0 0 false);simpa using this
  .exact(HB1.o.alloc hw1 _).alloc (by simp;omega) _
 refine nN ?_;refine Et ?_;refine RI (fun n a wr=>∃(k:Nat) (ts:List Tok) (u12 u13 u14 u15 u16:Value),a=⟨#[Value.string zM,undef,Value.chan none,Value.pointer (some ⟨w1.heap.size,0,none⟩),Value.chan (some (w1.heap.size+1)),Value.string zM,Value.string s,Value.agg #[Value.string s,Value.int .i64 0],Value.pointer (some ⟨w1.heap.size,0,none⟩),Value.string s,Value.int .i64 (s.size:Int),Value.chan (some (w1.heap.size+1)),u12,u13,u14,u15,u16,undef,undef],[]⟩/\s.size<=k+n/\ts.length<=k/\ts++tokF s n (com s k)=toks s/\iJ w wr w1.heap.size (w1.heap.size+1) s k ts) s.size ⟨0,[],undef,undef,undef,undef,undef,rfl,oo,by simp,rfl,S0.o⟩ ?_;rintro gk _ wr ⟨k,ts,u12,u13,u14,u15,u16,rfl,hk,htl,hts,hS⟩;have HT:=hid hts;have S1:=hid hS;clear hts hS S0
 have hkl:=S1.o.sc.le;have hcg:=Vq hkl;have hcl:=Af hkl;refine Et ?_;refine nN (jI ?_);go_wp2_with fail;refine pmb (IV s w1.heap.size k _ S1.o.sc) fun w2 aj=>?_;have S2:=hid (S1.o.went aj);clear aj;obtain⟨k1,HK⟩:∃k1,Hid (com s k=k1):=⟨_,rfl⟩;rw[HK.o]at hcg hcl;have S3:Hid (iJ w w2 w1.heap.size (w1.heap.size+1) s k1 ts):=by have:=S2.o;rw[HK.o]at this;exact this
 have HT2:Hid (ts++tokF s gk k1=toks s):=by have:=HT.o;rw[HK.o]at this;exact this
 clear S1 S2 HT;go_wp2_with fail;refine nN (jI ?_);by_cases hend:s.size<=k1
 .have e0:(pk s k1 == -1)=true:=by rw[oK hend];rfl
  have HV:Hid (ts=toks s):=by
   show ts=toks s;rw[<-HT2.o];cases gk with
   |zero=>simp[tokF]
   |succ f=>unfold tokF;rw[if_pos hend];simp
  go_wp2_with fail;refine cZ (ak s w1.heap.size k1 _ k1 _ S3.o.sc ⟨oo,oo,oo⟩) fun nq=>?_;go_wp2_with fail;go_step3
  refine hF.go 0 _ _ _ rfl ?_;clear hF;have S4:Hid (iJ w (w2.drewN nq) w1.heap.size (w1.heap.size+1) s k1 ts):=S3.o.drewN nq;obtain⟨w3,hcl,HC,HB⟩:∃w3:World,(∀ats ty,(Builtin.close_ ats ty #[.chan (some (w1.heap.size+1))]).run prog (w2.drewN nq)=.ok (.tuple #[]) w3)/\Hid (w3.heap[w1.heap.size+1]?=some (.chan s.size (ts.map bF).toArray true ts.length 0 false))/\Hid (Below w.heap.size w w3):=⟨(w2.drewN nq).setChan (w1.heap.size+1) s.size (ts.map bF).toArray true ts.length 0 false,fun ats ty=>run_close_open (P:=prog) (w:=w2.drewN nq) ats ty S4.o.chan,heap_setChan _ _ _ _ _ _ _ _ S4.o.clt,below_setChan S4.o.below S4.o.loc _ _ _ _ _ _⟩
  go_wp2_with fail;rw[Exit.noGoto_ret];go_ret;refine⟨w1.heap.size+1,s.size,ts.length,rfl,oo,?_,HB.o⟩;rw[HS.o,<-HV.o];exact HC.o
 .have e0:(pk s k1 == -1)=false:=by have:=tK (s:=s) (i:=k1) oo;simp;omega
  have hlt:k1<s.size:=oo;obtain⟨f,rfl⟩:∃f,gk=f+1:=⟨gk-1,oo⟩;have htg:=xA hlt;have anq:=xB hlt;have HV:Hid (ts++[(token s k1).1]++tokF s f (com s (token s k1).2)=toks s):=by
   show _=_;rw[<-HT2.o];conv=>rhs;unfold tokF
   rw[if_neg hend];simp
  go_wp2_with fail;refine cZ (ak s w1.heap.size k1 _ k1 _ S3.o.sc ⟨oo,oo,oo⟩) fun nq=>?_;have S4:Hid (iJ w (w2.drewN nq) w1.heap.size (w1.heap.size+1) s k1 ts):=S3.o.drewN nq;go_wp2_with fail;refine I9 ?_;show Left _ _ _ [0,1,2] _ _;refine AQ (v:=.chan (some (w1.heap.size+1))) (w':=w2.drewN nq) rfl rfl (by simp[go_sem]) ?_;refine aav (f:=114) (args:=#[.pointer (some ⟨w1.heap.size,0,none⟩)]) (w':=w2.drewN nq) (S:=fun v w'=>v=bF (token s k1).1/\aB w1.heap.size s (token s k1).2 (w2.drewN nq) w') rfl rfl (by simp[go_sem]) ((agm s w1.heap.size k1 _ S4.o.sc hlt).mono fun e w' h=>⟨_,h.1,rfl,h.2⟩) ?_;rintro _ w4 ⟨rfl,aj⟩;have S5:=hid (S4.o.went aj);clear aj
  refine aaw (c:=w1.heap.size+1) (cap:=s.size) (s:=ts.length) (r:=0) (buf:=(ts.map bF).toArray) (v:=bF (token s k1).1) (z':=.tuple #[]) (tm:=false) (w1:=w4) rfl rfl (by simp[go_sem,execOp,scase,Act.eval,Act.put]) S5.o.chan (by simp;omega) ?_;refine left_nil ?_;refine⟨f,oo,(token s k1).2,ts++[(token s k1).1],_,_,_,_,_,rfl,oo,by simp;omega,HV.o,S5.o.sent _⟩
end Go.Proofs.YtlliliddljkbfaaGreat
namespace Go.Proofs.YtlliliddljkbfaaGreat
open Go.RowKit Go.Conc Sp
end Go.Proofs.YtlliliddljkbfaaGreat
namespace Go.Proofs.YtlliliddljkbfaaGreat
open Go.Proofs.Tryz (prog)
open Go.RowKit Sp
theorem YK{s:BY}{k:Nat}(h:k<s.size):pk s k=(s[k].toNat:Int):=by unfold pk;rw[dif_pos h]
def allB(p:UInt8->Bool)(s:BY):Bool:=s.data.toList.all p
def rJ(p:UInt8->Bool)(s:BY)(k:Nat):Bool:=(s.data.toList.take k).all p
theorem vU(p:UInt8->Bool){s:BY}{k:Nat}(h:k<s.size):rJ p s (k+1)=(rJ p s k&&p s[k]):=by
 unfold rJ;have h':k<s.data.toList.length:=by simpa using h
 rw[List.take_succ_eq_append_getElem h',List.all_append];simp[ByteArray.getElem_eq_getElem_data]
theorem Eu(p:UInt8->Bool)(s:BY):rJ p s s.size=allB p s:=by unfold rJ allB;rw[List.take_of_length_le (by simp)]
theorem x9(p:UInt8->Bool){s:BY}{k:Nat}(h:k<s.size)(hp:p s[k]=false):allB p s=false:=by
 unfold allB;have h':k<s.data.toList.length:=by simpa using h
 rw[List.all_eq_false];exact⟨s.data.toList[k],List.getElem_mem _,by simpa[ByteArray.getElem_eq_getElem_data]using hp⟩
section
section
variable {rec:List Nd->Option bY} {acc:List Simple} {n:Nd} {r:List Nd}
theorem Wy:bZ rec acc []=some (acc,[]):=by simp[bZ]
end
end
section
section
variable {rec:List Nd->Option bY} {g b:Nat} {l r:List Nd} {all:List Simple}
theorem LM(h:aZ rec l=none):bD rec (g+1) b l=none:=by unfold bD;rw[h]
theorem Jj(h:aZ rec l=some ([],r)):bD rec (g+1) b l=none:=by unfold bD;rw[h];simp
theorem LP(h:aZ rec l=some (all,[]))(ha:all≠[]):bD rec (g+1) b l=some [(b,all)]:=by unfold bD;rw[h];simp[ha]
theorem RY(h:aZ rec l=some (all,r))(hr:r≠[])(hc:gU r=none):bD rec (g+1) b l=none:=by
 unfold bD;rw[h];simp only;by_cases ha:all=[]
 .rw[if_pos ha]
 .rw[if_neg ha,if_neg hr,hc]
theorem LQ{c:Nat}{r':List Nd}(h:aZ rec l=some (all,r))(ha:all≠[])(hr:r≠[])(hc:gU r=some (c,r')):bD rec (g+1) b l=(bD rec g c r').map (fun x=>(b,all)::x):=by
 conv=>lhs;unfold bD
 rw[h];simp only;rw[if_neg ha,if_neg hr,hc]
end
end
section
theorem uw:∀(l:List Nd) (n:Nd),n∈aH l->n∈l
 |m::r,n,h=>by
  unfold aH at h;split at h
  .exact List.mem_cons_of_mem _ (uw r n h)
  .exact h
theorem RZ(l:List Nd)(n:Nd)(h:n∈bare l):n∈l:=by unfold bare lJ at h;rw[List.mem_reverse]at h;exact uw l n (List.mem_reverse.1 (uw _ n h))
theorem Ey:∀(l:List Nd) (out:List (List Nd)) (cur:List Nd) (P:Nd->Prop),(∀p∈out,∀n∈p,P n)->(∀n∈cur,P n)->(∀n∈l,P n)->∀p∈iZ out cur l,∀n∈p,P n
 |[],out,cur,P,h1,h2,_,p,hp,n,hn=>by
  unfold iZ at hp;rcases List.mem_append.1 hp with h|h
  .exact h1 p h n hn
  .simp at h;subst h;exact h2 n hn
 |m::r,out,cur,P,h1,h2,h3,p,hp,n,hn=>by
  unfold iZ at hp;split at hp
  .refine Ey r (out++[cur]) [] P (fun q hq k hk=>?_) Aa (fun k hk=>h3 k (by simp[hk])) p hp n hn;rcases List.mem_append.1 hq with h|h
   .exact h1 q h k hk
   .simp at h;subst h;exact h2 k hk
  .refine Ey r out (cur++[m]) P h1 (fun k hk=>?_) (fun k hk=>h3 k (by simp[hk])) p hp n hn;rcases List.mem_append.1 hk with h|h
   .exact h2 k h
   .simp at h;subst h;exact h3 _ Aa
theorem WA(l:List Nd):(parted l).length<=l.length+1:=by
 have:∀(l:List Nd) (out:List (List Nd)) (cur:List Nd),(iZ out cur l).length<=out.length+l.length+1:=by
  intro l;induction l with
  |nil=>intro out cur;simp[iZ]
  |cons m r ih=>
   intro out cur;unfold iZ;split
   .have:=ih (out++[cur]) [];simp at this⊢;omega
   .have:=ih out (cur++[m]);simp at this⊢;omega
 have:=this l [] [];simpa[parted]using this
section
variable {rec:List Nd->Option bY} {p:List Nd} {r:List (List Nd)}
theorem WB(h:je rec (bare p)=none):fZ rec (p::r)=none:=by unfold fZ;rw[h]
theorem WC{s:List Step}(h:je rec (bare p)=some s):fZ rec (p::r)=(fZ rec r).map (fun x=>s::x):=by
 have e:fZ rec (p::r)=match je rec (bare p)with|none=>none|some s=>(fZ rec r).map (fun x=>s::x):=rfl
 rw[e,h]
end
end
theorem jf(t:Tok)(kv:Av)(x:BY)(w:WD):
  Calls prog 195 #[fB t kv,.string x] w fun e w'=>e=.returned (.bool (au t x))/\Below w.heap.size w w':=by
 unfold fB;cases h:(t.kind==15)
 .have HV:Hid (au t x=false):=by show _=_;simp at h;simp[au,h]
  go_in;go_wp2_with fail;go_ret;exact⟨aC HV.o.symm,As.alloc nl _⟩
 .have HV:Hid (au t x=(t.word.toList==x.toList)):=by show _=_;rw[bytes_beq];simp at h;simp[au,h]
  go_in;go_wp2_with fail;go_ret;exact⟨aC HV.o.symm,As.alloc nl _⟩
theorem G9(t:Tok)(w:WD):
  Calls prog 109 #[.agg #[.int .i64 t.kind,.string t.word,.string t.unit]] w fun e w'=>e=.returned (.string (closing t))/\Below w.heap.size w w':=by
 cases h11:(t.kind==11)
 .cases h15:(t.kind==15)
  .have HV:Hid (closing t=aA):=by show _=_;simp at h11 h15;simp[closing,h11,h15]
   go_in;go_wp2_with fail;go_ret;exact⟨Qr HV.o.symm,As.alloc nl _⟩
  .have e15:t.kind=15:=by simpa using h15
   cases Gt:(t.word.toList==[40])
   .cases KO:(t.word.toList==[91])
    .cases He:(t.word.toList==[123]);have HV:Hid (closing t=aA):=by show _=_;rw[ay]at Gt KO He;simp at Gt KO He;simp[closing,e15,b1,Gt,KO,He]
     rotate_left;have HV:Hid (closing t=b1 125):=by show _=_;rw[ay]at Gt KO He;simp at Gt KO He;simp[closing,e15,b1,He]
     rotate_left;all_goals
      clear e15;go_in;go_wp2_with fail;go_ret;exact⟨Qr HV.o.symm,As.alloc nl _⟩
    .have HV:Hid (closing t=b1 93):=by show _=_;rw[ay]at Gt KO;simp at Gt KO;simp[closing,e15,b1,KO]
     clear e15;go_in;go_wp2_with fail;go_ret;exact⟨Qr HV.o.symm,As.alloc nl _⟩
   .have HV:Hid (closing t=b1 41):=by show _=_;rw[ay]at Gt;simp at Gt;simp[closing,e15,b1,Gt]
    clear e15;go_in;go_wp2_with fail;go_ret;exact⟨Qr HV.o.symm,As.alloc nl _⟩
 .have HV:Hid (closing t=b1 41):=by show _=_;simp at h11;simp[closing,h11]
  go_in;go_wp2_with fail;go_ret;exact⟨Qr HV.o.symm,As.alloc nl _⟩
