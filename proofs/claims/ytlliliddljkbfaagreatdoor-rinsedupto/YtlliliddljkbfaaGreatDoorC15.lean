import Derived.Test.YtlliliddljkbfaaGreatDoorC13
import Derived.Test.YtlliliddljkbfaaGreatDoorC14
namespace Go.Proofs.YtlliliddljkbfaaGreatDoor
set_option maxHeartbeats 64000000
set_option maxRecDepth 100000
open Go.Proofs.Tryz (prog)
open Go.RowKit Sp
theorem fF.alloc{w:World}{R:Nat}(h:fF w R)(o:Obj):fF (w.alloc o) R:=⟨by rw[Below.heap_alloc _ _ _ h.lt];exact h.blk⟩
theorem fF.grown{w w':World}{R:Nat}{row:Option Nat}(h:fF w R)(hg:w.grownBy w' row)(hr:∀r,row=some r->R<r):fF w' R:=⟨by rw[hg.block R h.lt (fun e=>by have:=hr R e.symm;omega)];exact h.blk⟩
theorem fF.below{w w':World}{R:Nat}(h:fF w R)(hb:Below w.heap.size w w'):fF w' R:=⟨by rw[hb.block R h.lt];exact h.blk⟩
theorem CV(ps:List ByteArray):aB (ps++[ByteArray.empty])=aB ps:=by rw[bU];simp
theorem ED(s:ByteArray)(b i:Nat)(w:World)(h:Sc w b s i)(hi:i<s.size)(he:s.size<=i+1):
  Calls prog 228 #[.pointer (some ⟨b,0,none⟩)] w fun e w'=>e=.returned (.string ByteArray.empty)/\aG b s (i+1) w w':=by
 have W:Hid (aG b s i w w):=aG.refl h;clear h;have c00:=W.o.1.c0;have c10:=W.o.1.c1;have GY:=W.o.1.f1;have GZ:=W.o.1.lt;have cs0:=W.o.1.len;have G5:=W.o.1.le;have e1:(pk s (i+1) == -1)=true:=by rw[mO he];rfl
 go_in;go_wp2_with fail;refine dK (ak s b (i) _ (i+1) _ (W.o.1) ⟨oo,oo,oo⟩) fun nq=>?_;go_wp2_with fail;go_ret;exact⟨rfl,(W.o.drewN _).jw _ (i+1) oo oo⟩
theorem Dw(s:ByteArray)(b i:Nat)(w:World)(h:Sc w b s i)(hi:i+1<s.size)(he:pk s (i+1)=10):
  Calls prog 228 #[.pointer (some ⟨b,0,none⟩)] w fun e w'=>e=.returned (.string ByteArray.empty)/\aG b s (i+2) w w':=by
 have W:Hid (aG b s i w w):=aG.refl h;clear h;have c00:=W.o.1.c0;have c10:=W.o.1.c1;have GY:=W.o.1.f1;have GZ:=W.o.1.lt;have cs0:=W.o.1.len;have G5:=W.o.1.le;have e1:(pk s (i+1) == -1)=false:=by rw[he];rfl
 have e2:(pk s (i+1)==10)=true:=by rw[he];rfl
 clear he;go_in;go_wp2_with fail;refine dK (ak s b (i) _ (i+1) _ (W.o.1) ⟨oo,oo,oo⟩) fun nq=>?_;go_wp2_with fail;go_ret;exact⟨rfl,(W.o.drewN _).jw _ (i+2) oo oo⟩
theorem EF(s:ByteArray)(b i:Nat)(w:World)(h:Sc w b s i)(hi:i+1<s.size)(he:¬pk s (i+1)=10):
  Calls prog 228 #[.pointer (some ⟨b,0,none⟩)] w fun e w'=>e=.returned (.string (esc s i).1)/\aG b s (esc s i).2 w w':=by
 have W:Hid (aG b s i w w):=aG.refl h;clear h;have e1:(pk s (i+1) == -1)=false:=by have:=tV hi;simp;omega
 have e2:(pk s (i+1)==10)=false:=by simpa using he
 clear he;go_in;go_wp2_with fail;refine dK (ak s b (i) _ (i+1) _ (W.o.1) ⟨oo,oo,oo⟩) fun nq=>?_;go_wp2_with fail;refine pmb (zJ s b i _ (W.o.1.drewN _) oo) fun w1 aj=>?_;have W1:Hid (aG b s (esc s i).2 w w1):=(W.o.drewN _).trans aj;clear aj;go_wp2_with fail;go_ret;exact⟨rfl,W1.o⟩
theorem abe(s:ByteArray)(b i:Nat)(w:World)(h:Sc w b s i)(hi:i<s.size):
  Calls prog 164 #[.pointer (some ⟨b,0,none⟩)] w fun e w'=>e=.returned (aF (txt s (pk s i) (i+1)).1)/\aG b s (txt s (pk s i) (i+1)).2 w w':=by
 have W:=aG.nh h;have hbw:b<w.heap.size:=h.lt;have hs:s.size<=600:=h.len;clear h;obtain⟨iS,uh⟩:=jV;have HI:Hid (prog.info? 9=some iS/\iS.zero=some (.string ⟨#[]⟩)/\iS.size=1/\iS.bytes=16):=uh;clear uh;obtain⟨q,HQ⟩:∃q,Hid (pk s i=q):=⟨_,rfl⟩;rw[HQ.o];have c00:=W.o.1.c0;have c10:=W.o.1.c1;have GY:=W.o.1.f1;have GZ:=W.o.1.lt;have cs0:=W.o.1.len;have G5:=W.o.1.le;go_in;go_wp2_with fail;refine jK (fun Q' hF=>?_);go_wp2_with fail;refine(ak s b i _ i _ W.o.1 ⟨oo,oo,oo⟩).mono ?_;rw[HQ.o];rintro e wq ⟨rfl,nq,rfl⟩;go_wp2_with fail
 go_loopg[3] s.size (fun g v3 wr=>∃(v:Value) (k:Nat) (ps:List ByteArray),v=v3/\s.size<=k+g/\ps.length<=k/\total ps<=k/\Aside (lT s q g k (aB ps)=txt s q (i+1)/\wr.ownsRow (w.heap.size+1) 9 1 v ps.length (ps.map Value.string)/\aG b s k w wr/\fF wr w.heap.size));case atStart=>exact⟨_,i+1,[],rfl,oo,by simp,by simp[total],rfl,World.ownsRow_nil _ _ _ _,(W.o.drewN _).jw _ (i+1) oo oo,((fF.new w).drewN _).set oo _⟩
 case round=>
  obtain⟨v3,k,ps,rfl,hk,hpl,hpt,hA⟩:=hrel;have H1:Hid (lT s q gk k (aB ps)=txt s q (i+1)):=hA.o.1;have HO:Hid (wr.ownsRow (w.heap.size+1) 9 1 v3 ps.length (ps.map Value.string)):=hA.o.2.1;have H2:Hid (aG b s k w wr):=hA.o.2.2.1;have HR:Hid (fF wr w.heap.size):=hA.o.2.2.2;clear hA;have c02:=H2.o.1.c0;have c12:=H2.o.1.c1;have cf2:=H2.o.1.f1;have cl2:=H2.o.1.lt;have cs2:=H2.o.1.len;have ce2:=H2.o.1.le;by_cases hend:s.size<=k
  .have e0:(pk s k == -1)=true:=by rw[mO hend];rfl
   have HV:Hid (txt s q (i+1)=(Tok.w 2 (aB ps),k)):=by
    show _=_;rw[<-H1.o];cases gk with
    |zero=>rfl
    |succ f=>unfold lT;rw[if_pos hend]
   go_wp2_with fail;refine dK (ak s b (k) _ (k) _ (H2.o.1) ⟨oo,oo,oo⟩) fun nq=>?_;go_wp2_with fail;go_step3
   refine hF.go _ _ _ _ rfl ?_;clear hF;go_wp2_with fail;refine pmb (eG ps (w.heap.size+1) v3 _ (bW HO.o _) oo oo) fun w5 hb5=>?_;have W5:Hid (aG b s (k) w w5):=(H2.o.drewN _).below hb5;have R5:Hid (fF w5 w.heap.size):=(HR.o.drewN _).below hb5;clear hb5;have r0:=R5.o.c0;have r1:=R5.o.c1;have r2:=R5.o.c2;have rf:=R5.o.f;have rl:=R5.o.lt;go_wp2_with fail;try rw[Exit.noGoto_ret]
   refine bodyPost_ret (v:=aF (Tok.w 2 (aB ps))) (by simp[results,Tryz.results164,go_sem,aF,Tok.w,r0,r1,r2];rfl) rfl ⟨?_,?_⟩
   .rw[HV.o]
   .rw[HV.o];exact((W5.o.dG hbw nl _ _).dG hbw nl _ _).dG hbw nl _ _
  .have hlt:k<s.size:=oo;have e0:(pk s k == -1)=false:=by have:=tV hlt;simp;omega
   obtain⟨f,rfl⟩:∃f,gk=f+1:=⟨gk-1,oo⟩;have dW:=H1.o;unfold lT at dW;rw[if_neg hend]at dW;by_cases hq:pk s k=q
   .have e1:(pk s k==q)=true:=by simpa using hq
    have HV:Hid (txt s q (i+1)=(Tok.w 2 (aB ps),k+1)):=by show _=_;rw[<-dW,if_pos hq]
    clear hq dW;go_wp2_with fail;refine dK (ak s b (k) _ (k) _ (H2.o.1) ⟨oo,oo,oo⟩) fun nq=>?_;go_wp2_with fail;go_step3
    refine hF.go _ _ _ _ rfl ?_;clear hF;go_wp2_with fail;refine pmb (eG ps (w.heap.size+1) v3 _ (fA (bW HO.o _) ((Turn.refl b _).setCell 1 _) oo) oo oo) fun w5 hb5=>?_;have W5:Hid (aG b s (k+1) w w5):=((H2.o.drewN _).jw _ (k+1) oo oo).below hb5;have R5:Hid (fF w5 w.heap.size):=((HR.o.drewN _).set oo _).below hb5;clear hb5;have r0:=R5.o.c0;have r1:=R5.o.c1;have r2:=R5.o.c2;have rf:=R5.o.f;have rl:=R5.o.lt;go_wp2_with fail;try rw[Exit.noGoto_ret]
    refine bodyPost_ret (v:=aF (Tok.w 2 (aB ps))) (by simp[results,Tryz.results164,go_sem,aF,Tok.w,r0,r1,r2];rfl) rfl ⟨?_,?_⟩
    .rw[HV.o]
    .rw[HV.o];exact((W5.o.dG hbw nl _ _).dG hbw nl _ _).dG hbw nl _ _
   .have e1:(pk s k==q)=false:=by simpa using hq
    rw[if_neg hq]at dW;by_cases h10:pk s k=10
    .have e2:(pk s k==10)=true:=by rw[h10];rfl
     have HV:Hid (txt s q (i+1)=(Tok.k 3,k)):=by show _=_;rw[<-dW,if_pos h10]
     clear hq h10 dW;have r0:=HR.o.c0;have r1:=HR.o.c1;have r2:=HR.o.c2;have rf:=HR.o.f;have rl:=HR.o.lt;go_wp2_with fail;refine dK (ak s b (k) _ (k) _ (H2.o.1) ⟨oo,oo,oo⟩) fun nq=>?_;go_wp2_with fail;go_step3
     refine hF.go _ _ _ _ rfl ?_;clear hF;go_wp2_with fail;try rw[Exit.noGoto_ret]
     refine bodyPost_ret (v:=aF (Tok.k 3)) (by simp[results,Tryz.results164,go_sem,aF,Tok.k,r0,r1,r2];rfl) rfl ⟨?_,?_⟩
     .rw[HV.o]
     .rw[HV.o];exact(((H2.o.drewN _).dG hbw nl _ _).dG hbw nl _ _).dG hbw nl _ _
    .have e2:(pk s k==10)=false:=by simpa using h10
     rw[if_neg h10]at dW;by_cases wM:pk s k=92
     .have e3:(pk s k==92)=true:=by rw[wM];rfl
      rw[if_pos wM]at dW;by_cases hl1:s.size<=k+1
      .rw[if_pos hl1]at dW;have HV:Hid (lT s q f (k+1) (aB (ps++[ByteArray.empty]))=txt s q (i+1)):=by show _=_;rw[CV];exact dW
       clear hq h10 wM dW;go_wp2_with fail;refine dK (ak s b (k) _ (k) _ (H2.o.1) ⟨oo,oo,oo⟩) fun nq=>?_;go_wp2_with fail;refine pmb (ED s b k _ (H2.o.1.drewN _) hlt hl1) fun w1 aj=>?_;have W1:Hid (aG b s (k+1) w w1):=(H2.o.drewN _).trans aj;have qK:Hid (w1.ownsRow (w.heap.size+1) 9 1 v3 ps.length (ps.map Value.string)):=fA (bW HO.o _) aj.2 oo;have R1:Hid (fF w1 w.heap.size):=(HR.o.drewN _).turn aj.2 oo;clear aj;have hw1:=W1.o.2.size;have hw2:=R1.o.lt
       go_wp2_with(at_builtin;refine wpList_append_own _ rfl _ _ 22 rfl (w.heap.size+1) 9 iS (.string ⟨#[]⟩) 1 16 Tryz.underlying22 HI.o.1 HI.o.2.1 HI.o.2.2.1 HI.o.2.2.2 rfl oo v3 ps.length (ps.map Value.string) rfl (qK.o.alloc _) ⟨w1.heap.size,0,none⟩ 1 1 [.string (ByteArray.empty)] rfl rfl (cell_one_new _ _ _) (bf _) ?_ ?_ ?_ ?_)
       .unfold maxLen;omega
       .omega
       .simp;omega
       intro v4 w2 hown2 jC _;have W2:Hid (aG b s (k+1) w w2):=(W1.o.alloc _).grown jC hbw (fun r hr=>by have:=(qK.o.lt r hr).1;omega);have Bh:Hid (w2.ownsRow (w.heap.size+1) 9 1 v4 (ps.length+1) (ps.map Value.string++[.string (ByteArray.empty)])):=hown2;have R2:Hid (fF w2 w.heap.size):=(R1.o.alloc _).grown jC (fun r hr=>by have:=(qK.o.lt r hr).1;omega);clear hown2 jC;go_wp2_with fail;go_roundg f;case measure=>omega
       case rel=>
        refine⟨v4,k+1,ps++[ByteArray.empty],rfl,oo,by simp;omega,?_,HV.o,?_,W2.o,R2.o⟩
        .simp[dN,total];omega
        .simpa using Bh.o
      .rw[if_neg hl1]at dW;by_cases hln:pk s (k+1)=10
       .rw[if_pos hln]at dW;have HV:Hid (lT s q f (k+2) (aB (ps++[ByteArray.empty]))=txt s q (i+1)):=by show _=_;rw[CV];exact dW
        have HL:Hid (pk s (k+1)=10):=hln;clear hq h10 wM dW hln;go_wp2_with fail;refine dK (ak s b (k) _ (k) _ (H2.o.1) ⟨oo,oo,oo⟩) fun nq=>?_;go_wp2_with fail;refine pmb (Dw s b k _ (H2.o.1.drewN _) oo HL.o) fun w1 aj=>?_;have W1:Hid (aG b s (k+2) w w1):=(H2.o.drewN _).trans aj;have qK:Hid (w1.ownsRow (w.heap.size+1) 9 1 v3 ps.length (ps.map Value.string)):=fA (bW HO.o _) aj.2 oo;have R1:Hid (fF w1 w.heap.size):=(HR.o.drewN _).turn aj.2 oo;clear aj;have hw1:=W1.o.2.size;have hw2:=R1.o.lt
        go_wp2_with(at_builtin;refine wpList_append_own _ rfl _ _ 22 rfl (w.heap.size+1) 9 iS (.string ⟨#[]⟩) 1 16 Tryz.underlying22 HI.o.1 HI.o.2.1 HI.o.2.2.1 HI.o.2.2.2 rfl oo v3 ps.length (ps.map Value.string) rfl (qK.o.alloc _) ⟨w1.heap.size,0,none⟩ 1 1 [.string (ByteArray.empty)] rfl rfl (cell_one_new _ _ _) (bf _) ?_ ?_ ?_ ?_)
        .unfold maxLen;omega
        .omega
        .simp;omega
        intro v4 w2 hown2 jC _;have W2:Hid (aG b s (k+2) w w2):=(W1.o.alloc _).grown jC hbw (fun r hr=>by have:=(qK.o.lt r hr).1;omega);have Bh:Hid (w2.ownsRow (w.heap.size+1) 9 1 v4 (ps.length+1) (ps.map Value.string++[.string (ByteArray.empty)])):=hown2;have R2:Hid (fF w2 w.heap.size):=(R1.o.alloc _).grown jC (fun r hr=>by have:=(qK.o.lt r hr).1;omega);clear hown2 jC;go_wp2_with fail;go_roundg f;case measure=>omega
        case rel=>
         refine⟨v4,k+2,ps++[ByteArray.empty],rfl,oo,by simp;omega,?_,HV.o,?_,W2.o,R2.o⟩
         .simp[dN,total];omega
         .simpa using Bh.o
       .rw[if_neg hln]at dW;have hge:=og hlt;have hgt:=nG s k;have HV:Hid (lT s q f (esc s k).2 (aB (ps++[(esc s k).1]))=txt s q (i+1)):=by show _=_;rw[bU];exact dW
        have hsz:Hid ((esc s k).1.size=1):=kZ;have HL:Hid (¬pk s (k+1)=10):=hln;clear hq h10 wM dW hln;go_wp2_with fail;refine dK (ak s b (k) _ (k) _ (H2.o.1) ⟨oo,oo,oo⟩) fun nq=>?_;go_wp2_with fail;refine pmb (EF s b k _ (H2.o.1.drewN _) oo HL.o) fun w1 aj=>?_;have W1:Hid (aG b s ((esc s k).2) w w1):=(H2.o.drewN _).trans aj;have qK:Hid (w1.ownsRow (w.heap.size+1) 9 1 v3 ps.length (ps.map Value.string)):=fA (bW HO.o _) aj.2 oo;have R1:Hid (fF w1 w.heap.size):=(HR.o.drewN _).turn aj.2 oo;clear aj;have hw1:=W1.o.2.size;have hw2:=R1.o.lt
        go_wp2_with(at_builtin;refine wpList_append_own _ rfl _ _ 22 rfl (w.heap.size+1) 9 iS (.string ⟨#[]⟩) 1 16 Tryz.underlying22 HI.o.1 HI.o.2.1 HI.o.2.2.1 HI.o.2.2.2 rfl oo v3 ps.length (ps.map Value.string) rfl (qK.o.alloc _) ⟨w1.heap.size,0,none⟩ 1 1 [.string ((esc s k).1)] rfl rfl (cell_one_new _ _ _) (bf _) ?_ ?_ ?_ ?_)
        .unfold maxLen;omega
        .omega
        .simp;omega
        intro v4 w2 hown2 jC _;have W2:Hid (aG b s ((esc s k).2) w w2):=(W1.o.alloc _).grown jC hbw (fun r hr=>by have:=(qK.o.lt r hr).1;omega);have Bh:Hid (w2.ownsRow (w.heap.size+1) 9 1 v4 (ps.length+1) (ps.map Value.string++[.string ((esc s k).1)])):=hown2;have R2:Hid (fF w2 w.heap.size):=(R1.o.alloc _).grown jC (fun r hr=>by have:=(qK.o.lt r hr).1;omega);clear hown2 jC;go_wp2_with fail;go_roundg f;case measure=>omega
        case rel=>
         refine⟨v4,(esc s k).2,ps++[(esc s k).1],rfl,oo,by simp;omega,?_,HV.o,?_,W2.o,R2.o⟩
         .have:=hsz.o;simp[dN,total,this];omega
         .simpa using Bh.o
     .have e3:(pk s k==92)=false:=by simpa using wM
      rw[if_neg wM]at dW;have HV:Hid (lT s q f (k+1) (aB (ps++[one s k]))=txt s q (i+1)):=by show _=_;rw[bU];exact dW
      have hsz:Hid ((one s k).size=1):=iE hlt;clear hq h10 wM dW;go_wp2_with fail;refine dK (ak s b (k) _ (k) _ (H2.o.1) ⟨oo,oo,oo⟩) fun nq=>?_;go_wp2_with fail;refine pmb (x9 s b k _ (H2.o.1.drewN _) hlt) fun w1 aj=>?_;have W1:Hid (aG b s (k+1) w w1):=(H2.o.drewN _).trans aj;have qK:Hid (w1.ownsRow (w.heap.size+1) 9 1 v3 ps.length (ps.map Value.string)):=fA (bW HO.o _) aj.2 oo;have R1:Hid (fF w1 w.heap.size):=(HR.o.drewN _).turn aj.2 oo;clear aj;have hw1:=W1.o.2.size;have hw2:=R1.o.lt
      go_wp2_with(at_builtin;refine wpList_append_own _ rfl _ _ 22 rfl (w.heap.size+1) 9 iS (.string ⟨#[]⟩) 1 16 Tryz.underlying22 HI.o.1 HI.o.2.1 HI.o.2.2.1 HI.o.2.2.2 rfl oo v3 ps.length (ps.map Value.string) rfl (qK.o.alloc _) ⟨w1.heap.size,0,none⟩ 1 1 [.string (one s k)] rfl rfl (cell_one_new _ _ _) (bf _) ?_ ?_ ?_ ?_)
      .unfold maxLen;omega
      .omega
      .simp;omega
      intro v4 w2 hown2 jC _;have W2:Hid (aG b s (k+1) w w2):=(W1.o.alloc _).grown jC hbw (fun r hr=>by have:=(qK.o.lt r hr).1;omega);have Bh:Hid (w2.ownsRow (w.heap.size+1) 9 1 v4 (ps.length+1) (ps.map Value.string++[.string (one s k)])):=hown2;have R2:Hid (fF w2 w.heap.size):=(R1.o.alloc _).grown jC (fun r hr=>by have:=(qK.o.lt r hr).1;omega);clear hown2 jC;go_wp2_with fail;go_roundg f;case measure=>omega
      case rel=>
       refine⟨v4,k+1,ps++[one s k],rfl,oo,by simp;omega,?_,HV.o,?_,W2.o,R2.o⟩
       .have:=hsz.o;simp[dN,total,this];omega
       .simpa using Bh.o
def RW(w wr:World):Prop:=Below w.heap.size w wr/\fF wr w.heap.size
theorem RW.new(w:World):RW w (w.alloc (.cells #[.int .i64 0,.string ⟨#[]⟩,.string ⟨#[]⟩] 68 (0,0))):=⟨(Below.refl _ _).alloc nl _,fF.new w⟩
theorem RW.nh(w:World):Hid (RW w (w.alloc (.cells #[.int .i64 0,.string ⟨#[]⟩,.string ⟨#[]⟩] 68 (0,0)))):=RW.new w
theorem RW.below{w wr w1:World}(h:RW w wr)(hb:Below wr.heap.size wr w1):RW w w1:=⟨h.1.trans (hb.mono h.1.size),h.2.below hb⟩
theorem RW.jr{w wr:World}(h:RW w wr)(a b c:Value):Below w.heap.size w (((wr.setCell ⟨w.heap.size,0,none⟩ a).setCell ⟨w.heap.size,1,none⟩ b).setCell ⟨w.heap.size,2,none⟩ c):=((h.1.setCell nl _).setCell nl _).setCell nl _
theorem pI(s:ByteArray)(i:Int)(k:Nat)(w:World)(hi:i=k)(hs:s.size<=600)(hk:k<=s.size):
  Calls prog 259 #[.string s,.int .i64 i] w fun e w'=>e=.returned (.tuple #[aF (Tok.k 13),.int .i64 (bad s k:Int)])/\Below w.heap.size w w':=by
 subst hi;have W0:=RW.nh w;go_in;go_wp2_with fail;go_loopg[1] s.size (fun g v1 wr=>∃j:Nat,s.size<=j+g/\j<=s.size/\v1=.int .i64 (j:Int)/\Aside (rX s g j=bad s k/\RW w wr));case atStart=>exact⟨k,oo,hk,rfl,rfl,W0.o⟩
 case round=>
  obtain⟨j,hj,hj2,rfl,hA⟩:=hrel;have H1:Hid (rX s gk j=bad s k):=hA.o.1;have HW:Hid (RW w wr):=hA.o.2;clear hA W0;have RR:Hid (fF wr w.heap.size):=HW.o.2;by_cases hlt:j<s.size
  .have h1:(j:Int)<(s.size:Int):=oo;have hix:=aV s j hlt;obtain⟨f,rfl⟩:∃f,gk=f+1:=⟨gk-1,oo⟩;have dW:=H1.o;unfold rX at dW;rw[if_neg oo]at dW;by_cases Bj:pk s j=41
   .rw[if_pos Bj]at dW;have HV:Hid (bad s k=j+1):=dW.symm;have e1:(pk s j != 41)=false:=by rw[Bj];rfl
    have hm:(min ((j:Int)+1) (s.size:Int))=(j:Int)+1:=oo;clear Bj dW;have r0:=RR.o.c0;have r1:=RR.o.c1;have r2:=RR.o.c2;have rf:=RR.o.f;have rl:=RR.o.lt;go_wp2_with fail;refine bodyPost_ret (v:=.tuple #[aF (Tok.k 13),.int .i64 ((j:Int)+1)]) (by simp[results,Tryz.results259,go_sem,aF,Tok.k,r0,r1,r2];rfl) rfl ⟨?_,HW.o.jr _ _ _⟩;rw[HV.o];rfl
   .have e1:(pk s j != 41)=true:=by simpa using Bj
    rw[if_neg Bj]at dW;clear Bj RR;cases he:jq s j
    .rw[if_neg (by simp[he])]at dW;have HV:Hid (rX s f (j+1)=bad s k):=dW;clear dW;go_wp2_with fail;refine aN (aU s _ j _ oo oo oo) ?_;go_wp2_with fail;go_roundg f;case measure=>omega
     case rel=>exact⟨j+1,oo,oo,by congr 1,HV.o,HW.o⟩
    .rw[if_pos he]at dW;have hge:=og hlt;have hgt:=nG s j;have HV:Hid (rX s f (esc s j).2=bad s k):=dW;clear dW;go_wp2_with fail;refine aN (aU s _ j _ oo oo oo) ?_;go_wp2_with fail;refine pmb (zK s _ j _ oo oo oo) fun w1 hb=>?_;have HW1:Hid (RW w w1):=HW.o.below hb;clear hb;go_wp2_with fail;go_roundg f;case measure=>omega
     case rel=>exact⟨(esc s j).2,oo,oo,rfl,HV.o,HW1.o⟩
  .have h1:(s.size:Int)<=(j:Int):=oo;have hm:(min ((j:Int)+1) (s.size:Int))=(s.size:Int):=oo;have HV:Hid (bad s k=j):=by
    show _=_;rw[<-H1.o];cases gk with
    |zero=>rfl
    |succ f=>unfold rX;rw[if_pos oo]
   have r0:=RR.o.c0;have r1:=RR.o.c1;have r2:=RR.o.c2;have rf:=RR.o.f;have rl:=RR.o.lt;go_wp2_with fail;refine bodyPost_ret (v:=.tuple #[aF (Tok.k 13),.int .i64 ((s.size:Int))]) (by simp[results,Tryz.results259,go_sem,aF,Tok.k,r0,r1,r2];rfl) rfl ⟨?_,HW.o.jr _ _ _⟩;rw[HV.o,show(j:Nat)=s.size from by omega]
theorem V4{c:Int}(h:qJ c=false):(c==34)=false/\(c==39)=false/\(c==40)=false/\32<=c/\(c==127)=false/\(c==92)=false:=by simp only[qJ,fU,Bool.or_eq_false_iff,decide_eq_false_iff_not]at h;obtain⟨⟨⟨⟨⟨h1,h2⟩,h3⟩,h4⟩,h5⟩,h6⟩:=h;exact⟨h1,h2,h3,oo,h6,h4⟩
theorem V5{c:Int}(h:qJ c=true)(h34:(c==34)=false)(h39:(c==39)=false)(pU:(c==40)=false)(h32:32<=c)(h127:(c==127)=false):(c==92)=true:=by
 simp only[qJ,fU,h34,h39,pU,h127,Bool.or_eq_true,Bool.false_or,Bool.or_false,decide_eq_true_eq]at h;rcases h with h|h
 .exact h
 .omega
theorem abf(s:ByteArray)(i:Int)(k:Nat)(w:World)(hi:i=k)(hs:s.size<=600)(hk:k<=s.size):
  Calls prog 199 #[.string s,.int .i64 i] w fun e w'=>e=.returned (.tuple #[aF (link s k).1,.int .i64 ((link s k).2:Int)])/\Below w.heap.size w w':=by
 subst hi;have W0:=RW.nh w;go_in;go_wp2_with fail;go_loopg[1,6] s.size (fun g v1 v6 wr=>∃(j:Nat) (acc:ByteArray),s.size<=j+g/\j<=s.size/\acc.size<=j/\v1=.int .i64 (j:Int)/\v6=.string acc/\Aside (jy s g j acc=link s k/\RW w wr));case atStart=>exact⟨k,ByteArray.empty,oo,hk,by simp,rfl,rfl,rfl,W0.o⟩
 case round=>
  obtain⟨j,acc,hj,hj2,hac,rfl,rfl,hA⟩:=hrel;have H1:Hid (jy s gk j acc=link s k):=hA.o.1;have HW:Hid (RW w wr):=hA.o.2;clear hA W0;have RR:Hid (fF wr w.heap.size):=HW.o.2;by_cases hlt:j<s.size
  .have h1:(j:Int)<(s.size:Int):=oo;have hix:=aV s j hlt;obtain⟨f,rfl⟩:∃f,gk=f+1:=⟨gk-1,oo⟩;have dW:=H1.o;unfold jy at dW;rw[if_neg oo]at dW;by_cases Bj:pk s j=41
   .have e1:(pk s j==41)=true:=by rw[Bj];rfl
    rw[if_pos Bj]at dW;have HV:Hid (link s k=(Tok.w 12 acc,j+1)):=dW.symm;clear Bj dW;have r0:=RR.o.c0;have r1:=RR.o.c1;have r2:=RR.o.c2;have rf:=RR.o.f;have rl:=RR.o.lt;go_wp2_with fail;refine aN (aU s _ j _ oo oo oo) ?_;go_wp2_with fail;refine aN (aT _ _) ?_;go_wp2_with fail;refine bodyPost_ret (v:=.tuple #[aF (Tok.w 12 acc),.int .i64 ((j:Int)+1)]) (by simp[results,Tryz.results199,go_sem,aF,Tok.w,r0,r1,r2];rfl) rfl ⟨?_,HW.o.jr _ _ _⟩;rw[HV.o];rfl
   .have e1:(pk s j==41)=false:=by simpa using Bj
    rw[if_neg Bj]at dW;clear Bj;cases hbl:bJ (pk s j)
    .rw[if_neg (by simp[hbl])]at dW;cases he:jq s j
     .rw[if_neg (by simp[he])]at dW;have afm:=tV hlt;cases hsp:qJ (pk s j)
      .rw[if_neg (by simp[hsp])]at dW;have hsl:=oV s j hlt;have hsz:(one s j).size<=1:=by rw[iE hlt];omega
       have HV:Hid (jy s f (j+1) (acc++one s j)=link s k):=dW;obtain⟨s34,s39,s40,s32,abg,s92⟩:=V4 hsp;clear hsp dW RR;go_wp2_with fail;refine aN (aU s _ j _ oo oo oo) ?_;go_wp2_with fail;refine aN (aT _ _) ?_;go_wp2_with fail;go_roundg f;case measure=>omega
       case rel=>exact⟨j+1,acc++one s j,oo,oo,by simp;omega,by congr 1,rfl,HV.o,HW.o⟩
      .rw[if_pos hsp]at dW;have HV:Hid (link s k=(Tok.k 13,bad s j)):=dW.symm;clear dW RR;cases s34:(pk s j==34)
       .cases s39:(pk s j==39)
        .cases s40:(pk s j==40)
         .by_cases s32:pk s j<32
          .clear hsp;go_wp2_with fail;refine aN (aU s _ j _ oo oo oo) ?_;go_wp2_with fail;refine aN (aT _ _) ?_;go_wp2_with fail;refine pmb (pI s _ j _ oo oo oo) fun w1 hb=>?_;have HW1:Hid (RW w w1):=HW.o.below hb;clear hb;have RR:Hid (fF w1 w.heap.size):=HW1.o.2;have r0:=RR.o.c0;have r1:=RR.o.c1;have r2:=RR.o.c2;have rf:=RR.o.f;have rl:=RR.o.lt;unfold aF Tok.k;go_wp2_with fail;refine bodyPost_ret (v:=.tuple #[aF (Tok.k 13),.int .i64 ((bad s j:Int))]) (by simp[results,Tryz.results199,go_sem,aF,Tok.k,r0,r1,r2]) rfl ⟨?_,HW1.o.jr _ _ _⟩;rw[HV.o]
          .have aeb:32<=pk s j:=oo;cases abg:(pk s j==127);have s92:(pk s j==92)=true:=V5 hsp s34 s39 s40 aeb abg;rotate_left;rotate_left;all_goals
            clear hsp;go_wp2_with fail;refine aN (aU s _ j _ oo oo oo) ?_;go_wp2_with fail;refine aN (aT _ _) ?_;go_wp2_with fail;refine pmb (pI s _ j _ oo oo oo) fun w1 hb=>?_;have HW1:Hid (RW w w1):=HW.o.below hb;clear hb;have RR:Hid (fF w1 w.heap.size):=HW1.o.2;have r0:=RR.o.c0;have r1:=RR.o.c1;have r2:=RR.o.c2;have rf:=RR.o.f;have rl:=RR.o.lt;unfold aF Tok.k;go_wp2_with fail;refine bodyPost_ret (v:=.tuple #[aF (Tok.k 13),.int .i64 ((bad s j:Int))]) (by simp[results,Tryz.results199,go_sem,aF,Tok.k,r0,r1,r2]) rfl ⟨?_,HW1.o.jr _ _ _⟩;rw[HV.o]
         .clear hsp;go_wp2_with fail;refine aN (aU s _ j _ oo oo oo) ?_;go_wp2_with fail;refine aN (aT _ _) ?_;go_wp2_with fail;refine pmb (pI s _ j _ oo oo oo) fun w1 hb=>?_;have HW1:Hid (RW w w1):=HW.o.below hb;clear hb;have RR:Hid (fF w1 w.heap.size):=HW1.o.2;have r0:=RR.o.c0;have r1:=RR.o.c1;have r2:=RR.o.c2;have rf:=RR.o.f;have rl:=RR.o.lt;unfold aF Tok.k;go_wp2_with fail;refine bodyPost_ret (v:=.tuple #[aF (Tok.k 13),.int .i64 ((bad s j:Int))]) (by simp[results,Tryz.results199,go_sem,aF,Tok.k,r0,r1,r2]) rfl ⟨?_,HW1.o.jr _ _ _⟩;rw[HV.o]
        .clear hsp;go_wp2_with fail;refine aN (aU s _ j _ oo oo oo) ?_;go_wp2_with fail;refine aN (aT _ _) ?_;go_wp2_with fail;refine pmb (pI s _ j _ oo oo oo) fun w1 hb=>?_;have HW1:Hid (RW w w1):=HW.o.below hb;clear hb;have RR:Hid (fF w1 w.heap.size):=HW1.o.2;have r0:=RR.o.c0;have r1:=RR.o.c1;have r2:=RR.o.c2;have rf:=RR.o.f;have rl:=RR.o.lt;unfold aF Tok.k;go_wp2_with fail;refine bodyPost_ret (v:=.tuple #[aF (Tok.k 13),.int .i64 ((bad s j:Int))]) (by simp[results,Tryz.results199,go_sem,aF,Tok.k,r0,r1,r2]) rfl ⟨?_,HW1.o.jr _ _ _⟩;rw[HV.o]
       .clear hsp;go_wp2_with fail;refine aN (aU s _ j _ oo oo oo) ?_;go_wp2_with fail;refine aN (aT _ _) ?_;go_wp2_with fail;refine pmb (pI s _ j _ oo oo oo) fun w1 hb=>?_;have HW1:Hid (RW w w1):=HW.o.below hb;clear hb;have RR:Hid (fF w1 w.heap.size):=HW1.o.2;have r0:=RR.o.c0;have r1:=RR.o.c1;have r2:=RR.o.c2;have rf:=RR.o.f;have rl:=RR.o.lt;unfold aF Tok.k;go_wp2_with fail;refine bodyPost_ret (v:=.tuple #[aF (Tok.k 13),.int .i64 ((bad s j:Int))]) (by simp[results,Tryz.results199,go_sem,aF,Tok.k,r0,r1,r2]) rfl ⟨?_,HW1.o.jr _ _ _⟩;rw[HV.o]
     .rw[if_pos he]at dW;have hge:=og hlt;have hgt:=nG s j;have wM:pk s j=92:=(U3 he).1;obtain⟨x,p,HX⟩:∃x p,Hid (esc s j=(x,p)):=⟨_,_,rfl⟩;have hxs:x.size<=1:=by have:=kZ (s:=s) (i:=j);rw[HX.o]at this;exact Nat.le_of_eq this
      rw[HX.o]at dW hge hgt;have HV:Hid (jy s f p (acc++x)=link s k):=dW;have s34:(pk s j==34)=false:=by rw[wM];rfl
      have s39:(pk s j==39)=false:=by rw[wM];rfl
      have s40:(pk s j==40)=false:=by rw[wM];rfl
      have s32:32<=pk s j:=oo;have abg:(pk s j==127)=false:=by rw[wM];rfl
      have s92:(pk s j==92)=true:=by rw[wM];rfl
      clear wM dW RR;go_wp2_with fail;refine aN (aU s _ j _ oo oo oo) ?_;go_wp2_with fail;refine aN (aT _ _) ?_;go_wp2_with fail;refine(zK s _ j _ oo oo oo).mono ?_;rw[HX.o];rintro e w1 ⟨rfl,hb⟩;have HW1:Hid (RW w w1):=HW.o.below hb;clear hb;go_wp2_with fail;go_roundg f;case measure=>omega
      case rel=>exact⟨p,acc++x,oo,oo,by simp;omega,rfl,rfl,HV.o,HW1.o⟩
    .rw[if_pos hbl]at dW;have ac0:=AZ (s:=s) (i:=j) oo;obtain⟨kb,HKB⟩:∃kb,Hid (Sp.blk s j=kb):=⟨_,rfl⟩;rw[HKB.o]at dW ac0;by_cases hbe:s.size<=kb
     .rw[if_pos hbe]at dW;have b1:((kb:Int)==(s.size:Int))=true:=by simp;omega
      have hm:(min ((kb:Int)+1) (s.size:Int))=(s.size:Int):=oo;have HV:Hid (link s k=(Tok.w 12 acc,kb)):=dW.symm;clear dW;have r0:=RR.o.c0;have r1:=RR.o.c1;have r2:=RR.o.c2;have rf:=RR.o.f;have rl:=RR.o.lt;go_wp2_with fail;refine aN (aU s _ j _ oo oo oo) ?_;go_wp2_with fail;refine aN (aT _ _) ?_;go_wp2_with fail;refine(nM s _ j _ oo oo oo).mono ?_;rw[HKB.o];rintro e wq ⟨rfl,rfl⟩;go_wp2_with fail;refine bodyPost_ret (v:=.tuple #[aF (Tok.w 12 acc),.int .i64 ((s.size:Int))]) (by simp[results,Tryz.results199,go_sem,aF,Tok.w,r0,r1,r2];rfl) rfl ⟨?_,HW.o.jr _ _ _⟩;rw[HV.o,show(kb:Nat)=s.size from by omega]
     .rw[if_neg hbe]at dW;have hlb:kb<s.size:=oo;have b1:((kb:Int)==(s.size:Int))=false:=by simp;omega
      have afn:=aV s kb hlb;have hm:(min ((kb:Int)+1) (s.size:Int))=(kb:Int)+1:=oo;by_cases zU:pk s kb=41
      .rw[if_pos zU]at dW;have b2:(pk s kb==41)=true:=by rw[zU];rfl
       have HV:Hid (link s k=(Tok.w 12 acc,kb+1)):=dW.symm;clear dW zU;have r0:=RR.o.c0;have r1:=RR.o.c1;have r2:=RR.o.c2;have rf:=RR.o.f;have rl:=RR.o.lt;go_wp2_with fail;refine aN (aU s _ j _ oo oo oo) ?_;go_wp2_with fail;refine aN (aT _ _) ?_;go_wp2_with fail;refine(nM s _ j _ oo oo oo).mono ?_;rw[HKB.o];rintro e wq ⟨rfl,rfl⟩;go_wp2_with fail;refine bodyPost_ret (v:=.tuple #[aF (Tok.w 12 acc),.int .i64 ((kb:Int)+1)]) (by simp[results,Tryz.results199,go_sem,aF,Tok.w,r0,r1,r2];rfl) rfl ⟨?_,HW.o.jr _ _ _⟩;rw[HV.o];rfl
      .rw[if_neg zU]at dW;have b2:(pk s kb==41)=false:=by simpa using zU
       have HV:Hid (link s k=(Tok.k 13,bad s kb)):=dW.symm;clear dW zU RR;go_wp2_with fail;refine aN (aU s _ j _ oo oo oo) ?_;go_wp2_with fail;refine aN (aT _ _) ?_;go_wp2_with fail;refine(nM s _ j _ oo oo oo).mono ?_;rw[HKB.o];rintro e wq ⟨rfl,rfl⟩;go_wp2_with fail;refine pmb (pI s _ kb _ oo oo oo) fun w1 hb=>?_;have HW1:Hid (RW w w1):=HW.o.below hb;clear hb;have RR:Hid (fF w1 w.heap.size):=HW1.o.2;have r0:=RR.o.c0;have r1:=RR.o.c1;have r2:=RR.o.c2;have rf:=RR.o.f;have rl:=RR.o.lt;unfold aF Tok.k;go_wp2_with fail;refine bodyPost_ret (v:=.tuple #[aF (Tok.k 13),.int .i64 ((bad s kb:Int))]) (by simp[results,Tryz.results199,go_sem,aF,Tok.k,r0,r1,r2]) rfl ⟨?_,HW1.o.jr _ _ _⟩;rw[HV.o]
  .have h1:(s.size:Int)<=(j:Int):=oo;have HV:Hid (link s k=(Tok.w 12 acc,j)):=by
    show _=_;rw[<-H1.o];cases gk with
    |zero=>rfl
    |succ f=>unfold jy;rw[if_pos oo]
   have r0:=RR.o.c0;have r1:=RR.o.c1;have r2:=RR.o.c2;have rf:=RR.o.f;have rl:=RR.o.lt;go_wp2_with fail;refine bodyPost_ret (v:=.tuple #[aF (Tok.w 12 acc),.int .i64 ((j:Int))]) (by simp[results,Tryz.results199,go_sem,aF,Tok.w,r0,r1,r2];rfl) rfl ⟨?_,HW.o.jr _ _ _⟩;rw[HV.o]
theorem xJ(s:ByteArray)(b i:Nat)(w:World)(h:Sc w b s i):
  Calls prog 282 #[.pointer (some ⟨b,0,none⟩)] w fun e w'=>e=.returned (.tuple #[])/\aG b s (bad s i) w w':=by
 have W:Hid (aG b s i w w):=aG.refl h;clear h;go_in;go_wp2_with fail;refine jK (fun Q' hF=>?_);go_wp2_with fail;go_loopg[] s.size (fun g wr=>∃k:Nat,s.size<=k+g/\Aside (rX s g k=bad s i/\aG b s k w wr));case atStart=>exact⟨i,oo,rfl,W.o⟩
 case round=>
  obtain⟨k,hk,hA⟩:=hrel;have H1:Hid (rX s gk k=bad s i):=hA.o.1;have H2:Hid (aG b s k w wr):=hA.o.2;clear hA;have c02:=H2.o.1.c0;have c12:=H2.o.1.c1;have cf2:=H2.o.1.f1;have cl2:=H2.o.1.lt;have cs2:=H2.o.1.len;have ce2:=H2.o.1.le;by_cases hend:s.size<=k
  .have e0:(pk s k == -1)=true:=by rw[mO hend];rfl
   have HV:Hid (bad s i=k):=by
    show _=_;rw[<-H1.o];cases gk with
    |zero=>rfl
    |succ f=>unfold rX;rw[if_pos hend]
   go_wp2_with fail;refine dK (ak s b (k) _ (k) _ (H2.o.1) ⟨oo,oo,oo⟩) fun nq=>?_;go_wp2_with fail;go_step3
   refine hF.go _ _ _ _ rfl ?_;clear hF;go_wp2
   simp only[Exit.noGoto];go_end0
   refine⟨rfl,?_⟩;rw[HV.o];exact H2.o.drewN _
  .have hlt:k<s.size:=oo;have e0:(pk s k == -1)=false:=by have:=tV hlt;simp;omega
   obtain⟨f,rfl⟩:∃f,gk=f+1:=⟨gk-1,oo⟩;have dW:=H1.o;unfold rX at dW;rw[if_neg hend]at dW;by_cases Bj:pk s k=41
   .have e1:(pk s k==41)=true:=by rw[Bj];rfl
    have HV:Hid (bad s i=k+1):=by show _=_;rw[<-dW,if_pos Bj]
    clear Bj dW;go_wp2_with fail;refine dK (ak s b (k) _ (k) _ (H2.o.1) ⟨oo,oo,oo⟩) fun nq=>?_;go_wp2_with fail;go_step3
    refine hF.go _ _ _ _ rfl ?_;clear hF;go_wp2
    simp only[Exit.noGoto];go_end0
    refine⟨rfl,?_⟩;rw[HV.o];exact(H2.o.drewN _).jw _ (k+1) oo oo
   .have e1:(pk s k==41)=false:=by simpa using Bj
    rw[if_neg Bj]at dW;clear Bj;cases he:jq s k
    .rw[if_neg (by simp[he])]at dW;have HV:Hid (rX s f (k+1)=bad s i):=dW;clear dW;go_wp2_with fail;refine dK (ak s b (k) _ (k) _ (H2.o.1) ⟨oo,oo,oo⟩) fun nq=>?_;go_wp2_with fail;refine dK (fJ s b (k) _ (k) _ (H2.o.1.drewN _) ⟨oo,oo,oo⟩) fun nq=>?_;go_wp2_with fail;go_roundg f;case measure=>omega
     case rel=>exact⟨k+1,oo,HV.o,(H2.o.drewN _).jw _ (k+1) oo oo⟩
    .rw[if_pos he]at dW;have HV:Hid (rX s f (esc s k).2=bad s i):=dW;clear dW;have hge:=og hlt;have hgt:=nG s k;go_wp2_with fail;refine dK (ak s b (k) _ (k) _ (H2.o.1) ⟨oo,oo,oo⟩) fun nq=>?_;go_wp2_with fail;refine dK (fJ s b (k) _ (k) _ (H2.o.1.drewN _) ⟨oo,oo,oo⟩) fun nq=>?_;go_wp2_with fail;refine pmb (zJ s b k _ (H2.o.1.drewN _) hlt) fun w1 aj=>?_;have W1:Hid (aG b s (esc s k).2 w w1):=(H2.o.drewN _).trans aj;clear aj;go_wp2_with fail;go_roundg f;case measure=>omega
     case rel=>exact⟨(esc s k).2,oo,HV.o,W1.o⟩
theorem uX(s:ByteArray)(b i:Nat)(w:World)(h:Sc w b s i):
  Calls prog 236 #[.pointer (some ⟨b,0,none⟩)] w fun e w'=>e=.returned (.bool (fU (pk s (Sp.blk s i))))/\aG b s i w w':=by
 have W:Hid (aG b s i w w):=aG.refl h;have hbw:=h.lt;have hp:=h.pos;have S:Hid (Sc (w.alloc (.cells #[.string s,.int .i64 (i:Int)] 170 (0,0))) w.heap.size s i):=
  ⟨heap_alloc_new w _,by obtain⟨m,hm⟩:=h.glob;exact⟨m,by rw[<-hm];exact World.cell?_of_block (w:=w) (Below.heap_alloc _ _ _ (by show 0<w.heap.size;omega))⟩,oo,h.len,h.le⟩
 have h0:=h.c0;have h1:=h.c1;clear h;go_in;go_wp2_with fail;refine pmb (lH s w.heap.size i _ S.o) fun w1 aj=>?_;have S1:Hid (Sc w1 w.heap.size s (Sp.blk s i)):=aj.1;have T1:Hid (Turn w.heap.size (w.alloc (.cells #[.string s,.int .i64 (i:Int)] 170 (0,0))) w1):=aj.2;clear aj;go_wp2_with fail;refine dK (ak s w.heap.size (Sp.blk s i) _ (Sp.blk s i) _ S1.o ⟨oo,oo,oo⟩) fun nq=>?_;go_wp2_with fail;refine aN (gB _ _) ?_;go_wp2_with fail;go_ret;have hb:Below w.heap.size w w1:=((Below.refl _ w).alloc nl _).trans (T1.o.below nl (by simp));exact⟨rfl,(W.o.below hb).drewN _⟩
end Go.Proofs.YtlliliddljkbfaaGreatDoor
