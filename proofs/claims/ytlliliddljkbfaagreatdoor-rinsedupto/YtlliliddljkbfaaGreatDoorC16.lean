import Derived.Test.YtlliliddljkbfaaGreatDoorC5
import Derived.Test.YtlliliddljkbfaaGreatDoorC15
namespace Go.Proofs.YtlliliddljkbfaaGreatDoor
set_option maxHeartbeats 64000000
set_option maxRecDepth 100000
open Go.Proofs.Tryz (prog)
open Go.RowKit Sp
theorem abh(s:ByteArray)(b i:Nat)(w:World)(h:Sc w b s i):
  Calls prog 237 #[.pointer (some ⟨b,0,none⟩)] w fun e w'=>e=.returned (aF (link s (Sp.blk s i)).1)/\aG b s (link s (Sp.blk s i)).2 w w':=by
 have W:=aG.nh h;have hbw:b<w.heap.size:=h.lt;have hs:s.size<=600:=h.len;clear h;obtain⟨iS,uh⟩:=jV;have HI:Hid (prog.info? 9=some iS/\iS.zero=some (.string ⟨#[]⟩)/\iS.size=1/\iS.bytes=16):=uh;clear uh;go_in;go_wp2_with fail;refine jK (fun Q' hF=>?_);go_wp2_with fail;refine pmb (lH s b i _ W.o.1) fun w0 aj=>?_;have W0:Hid (aG b s (Sp.blk s i) w w0):=W.o.trans aj;have R0:Hid (fF w0 w.heap.size):=(fF.new w).turn aj.2 oo;clear aj;go_wp2_with fail;go_loopg[3] s.size (fun g v3 wr=>∃(v:Value) (k:Nat) (ps:List ByteArray),v=v3/\s.size<=k+g/\ps.length<=k/\total ps<=k/\Aside (jy s g k (aB ps)=link s (Sp.blk s i)/\wr.ownsRow (w.heap.size+1) 9 1 v ps.length (ps.map Value.string)/\aG b s k w wr/\fF wr w.heap.size))
 case atStart=>exact⟨_,Sp.blk s i,[],rfl,oo,by simp,by simp[total],rfl,World.ownsRow_nil _ _ _ _,W0.o,R0.o⟩
 case round=>
  obtain⟨v3,k,ps,rfl,hk,hpl,hpt,hA⟩:=hrel;have H1:Hid (jy s gk k (aB ps)=link s (Sp.blk s i)):=hA.o.1;have HO:Hid (wr.ownsRow (w.heap.size+1) 9 1 v3 ps.length (ps.map Value.string)):=hA.o.2.1;have H2:Hid (aG b s k w wr):=hA.o.2.2.1;have HR:Hid (fF wr w.heap.size):=hA.o.2.2.2;clear hA;have c02:=H2.o.1.c0;have c12:=H2.o.1.c1;have cf2:=H2.o.1.f1;have cl2:=H2.o.1.lt;have cs2:=H2.o.1.len;have ce2:=H2.o.1.le;by_cases hend:s.size<=k
  .have e0:(pk s k == -1)=true:=by rw[mO hend];rfl
   have HV:Hid (link s (Sp.blk s i)=(Tok.w 12 (aB ps),k)):=by
    show _=_;rw[<-H1.o];cases gk with
    |zero=>rfl
    |succ f=>unfold jy;rw[if_pos hend]
   go_wp2_with fail;refine dK (ak s b (k) _ (k) _ (H2.o.1) ⟨oo,oo,oo⟩) fun nq=>?_;go_wp2_with fail;go_step3
   refine hF.go _ _ _ _ rfl ?_;clear hF;go_wp2_with fail;refine pmb (eG ps (w.heap.size+1) v3 _ (bW HO.o _) oo oo) fun w5 hb5=>?_;have W5:Hid (aG b s (k) w w5):=(H2.o.drewN _).below hb5;have R5:Hid (fF w5 w.heap.size):=(HR.o.drewN _).below hb5;clear hb5;have r0:=R5.o.c0;have r1:=R5.o.c1;have r2:=R5.o.c2;have rf:=R5.o.f;have rl:=R5.o.lt;go_wp2_with fail;try rw[Exit.noGoto_ret]
   refine bodyPost_ret (v:=aF (Tok.w 12 (aB ps))) (by simp[results,Tryz.results237,go_sem,aF,Tok.w,r0,r1,r2];rfl) rfl ⟨?_,?_⟩
   .rw[HV.o]
   .rw[HV.o];exact((W5.o.dG hbw nl _ _).dG hbw nl _ _).dG hbw nl _ _
  .have hlt:k<s.size:=oo;have e0:(pk s k == -1)=false:=by have:=tV hlt;simp;omega
   obtain⟨f,rfl⟩:∃f,gk=f+1:=⟨gk-1,oo⟩;have dW:=H1.o;unfold jy at dW;rw[if_neg hend]at dW;by_cases Bj:pk s k=41
   .have e1:(pk s k==41)=true:=by rw[Bj];rfl
    have HV:Hid (link s (Sp.blk s i)=(Tok.w 12 (aB ps),k+1)):=by show _=_;rw[<-dW,if_pos Bj]
    clear Bj dW;go_wp2_with fail;refine dK (ak s b (k) _ (k) _ (H2.o.1) ⟨oo,oo,oo⟩) fun nq=>?_;go_wp2_with fail;go_step3
    refine hF.go _ _ _ _ rfl ?_;clear hF;go_wp2_with fail;refine pmb (eG ps (w.heap.size+1) v3 _ (fA (bW HO.o _) ((Turn.refl b _).setCell 1 _) oo) oo oo) fun w5 hb5=>?_;have W5:Hid (aG b s (k+1) w w5):=((H2.o.drewN _).jw _ (k+1) oo oo).below hb5;have R5:Hid (fF w5 w.heap.size):=((HR.o.drewN _).set oo _).below hb5;clear hb5;have r0:=R5.o.c0;have r1:=R5.o.c1;have r2:=R5.o.c2;have rf:=R5.o.f;have rl:=R5.o.lt;go_wp2_with fail;try rw[Exit.noGoto_ret]
    refine bodyPost_ret (v:=aF (Tok.w 12 (aB ps))) (by simp[results,Tryz.results237,go_sem,aF,Tok.w,r0,r1,r2];rfl) rfl ⟨?_,?_⟩
    .rw[HV.o]
    .rw[HV.o];exact((W5.o.dG hbw nl _ _).dG hbw nl _ _).dG hbw nl _ _
   .have e1:(pk s k==41)=false:=by simpa using Bj
    rw[if_neg Bj]at dW;clear Bj;cases hbl:bJ (pk s k)
    .rw[if_neg (by simp[hbl])]at dW;cases he:jq s k
     .rw[if_neg (by simp[he])]at dW;cases hsp:qJ (pk s k)
      .rw[if_neg (by simp[hsp])]at dW;have HV:Hid (jy s f (k+1) (aB (ps++[one s k]))=link s (Sp.blk s i)):=by show _=_;rw[bU];exact dW
       have hsz:Hid ((one s k).size=1):=iE hlt;clear dW;go_wp2_with fail;refine dK (ak s b (k) _ (k) _ (H2.o.1) ⟨oo,oo,oo⟩) fun nq=>?_;go_wp2_with fail;refine aN (bF _ _) ?_;go_wp2_with fail;refine dK (fJ s b (k) _ (k) _ (H2.o.1.drewN _) ⟨oo,oo,oo⟩) fun nq=>?_;go_wp2_with fail;refine aN (zl _ _) ?_;go_wp2_with fail;refine pmb (x9 s b k _ (H2.o.1.drewN _) hlt) fun w1 aj=>?_;have W1:Hid (aG b s (k+1) w w1):=(H2.o.drewN _).trans aj;have qK:Hid (w1.ownsRow (w.heap.size+1) 9 1 v3 ps.length (ps.map Value.string)):=fA (bW HO.o _) aj.2 oo;have R1:Hid (fF w1 w.heap.size):=(HR.o.drewN _).turn aj.2 oo;clear aj;have hw1:=W1.o.2.size;have hw2:=R1.o.lt
       go_wp2_with(at_builtin;refine wpList_append_own _ rfl _ _ 22 rfl (w.heap.size+1) 9 iS (.string ⟨#[]⟩) 1 16 Tryz.underlying22 HI.o.1 HI.o.2.1 HI.o.2.2.1 HI.o.2.2.2 rfl oo v3 ps.length (ps.map Value.string) rfl (qK.o.alloc _) ⟨w1.heap.size,0,none⟩ 1 1 [.string (one s k)] rfl rfl (cell_one_new _ _ _) (bf _) ?_ ?_ ?_ ?_)
       .unfold maxLen;omega
       .omega
       .simp;omega
       intro v4 w2 hown2 jC _;have W2:Hid (aG b s (k+1) w w2):=(W1.o.alloc _).grown jC hbw (fun r hr=>by have:=(qK.o.lt r hr).1;omega);have Bh:Hid (w2.ownsRow (w.heap.size+1) 9 1 v4 (ps.length+1) (ps.map Value.string++[.string (one s k)])):=hown2;have R2:Hid (fF w2 w.heap.size):=(R1.o.alloc _).grown jC (fun r hr=>by have:=(qK.o.lt r hr).1;omega);clear hown2 jC;go_wp2_with fail;go_roundg f;case measure=>omega
       case rel=>
        refine⟨v4,k+1,ps++[one s k],rfl,oo,by simp;omega,?_,HV.o,?_,W2.o,R2.o⟩
        .have:=hsz.o;simp[dN,total,this];omega
        .simpa using Bh.o
      .rw[if_pos hsp]at dW;have HV:Hid (link s (Sp.blk s i)=(Tok.k 13,bad s k)):=dW.symm;clear dW;go_wp2_with fail;refine dK (ak s b (k) _ (k) _ (H2.o.1) ⟨oo,oo,oo⟩) fun nq=>?_;go_wp2_with fail;refine aN (bF _ _) ?_;go_wp2_with fail;refine dK (fJ s b (k) _ (k) _ (H2.o.1.drewN _) ⟨oo,oo,oo⟩) fun nq=>?_;go_wp2_with fail;refine aN (zl _ _) ?_;go_wp2_with fail;go_step3
       refine hF.go _ _ _ _ rfl ?_;clear hF;go_wp2_with fail;refine pmb (xJ s b (k) _ ((H2.o.drewN _)).1) fun w5 aj=>?_;have W5:Hid (aG b s (bad s (k)) w w5):=((H2.o.drewN _)).trans aj;have R5:Hid (fF w5 w.heap.size):=((HR.o.drewN _)).turn aj.2 oo;clear aj;have r0:=R5.o.c0;have r1:=R5.o.c1;have r2:=R5.o.c2;have rf:=R5.o.f;have rl:=R5.o.lt;go_wp2_with fail;try rw[Exit.noGoto_ret]
       refine bodyPost_ret (v:=aF (Tok.k 13)) (by simp[results,Tryz.results237,go_sem,aF,Tok.k,r0,r1,r2];rfl) rfl ⟨?_,?_⟩
       .rw[HV.o]
       .rw[HV.o];exact((W5.o.dG hbw nl _ _).dG hbw nl _ _).dG hbw nl _ _
     .rw[if_pos he]at dW;have hge:=og hlt;have hgt:=nG s k;have HV:Hid (jy s f (esc s k).2 (aB (ps++[(esc s k).1]))=link s (Sp.blk s i)):=by show _=_;rw[bU];exact dW
      have hsz:Hid ((esc s k).1.size=1):=kZ;clear dW;go_wp2_with fail;refine dK (ak s b (k) _ (k) _ (H2.o.1) ⟨oo,oo,oo⟩) fun nq=>?_;go_wp2_with fail;refine aN (bF _ _) ?_;go_wp2_with fail;refine dK (fJ s b (k) _ (k) _ (H2.o.1.drewN _) ⟨oo,oo,oo⟩) fun nq=>?_;go_wp2_with fail;refine pmb (zJ s b k _ (H2.o.1.drewN _) hlt) fun w1 aj=>?_;have W1:Hid (aG b s ((esc s k).2) w w1):=(H2.o.drewN _).trans aj;have qK:Hid (w1.ownsRow (w.heap.size+1) 9 1 v3 ps.length (ps.map Value.string)):=fA (bW HO.o _) aj.2 oo;have R1:Hid (fF w1 w.heap.size):=(HR.o.drewN _).turn aj.2 oo;clear aj;have hw1:=W1.o.2.size;have hw2:=R1.o.lt
      go_wp2_with(at_builtin;refine wpList_append_own _ rfl _ _ 22 rfl (w.heap.size+1) 9 iS (.string ⟨#[]⟩) 1 16 Tryz.underlying22 HI.o.1 HI.o.2.1 HI.o.2.2.1 HI.o.2.2.2 rfl oo v3 ps.length (ps.map Value.string) rfl (qK.o.alloc _) ⟨w1.heap.size,0,none⟩ 1 1 [.string ((esc s k).1)] rfl rfl (cell_one_new _ _ _) (bf _) ?_ ?_ ?_ ?_)
      .unfold maxLen;omega
      .omega
      .simp;omega
      intro v4 w2 hown2 jC _;have W2:Hid (aG b s ((esc s k).2) w w2):=(W1.o.alloc _).grown jC hbw (fun r hr=>by have:=(qK.o.lt r hr).1;omega);have Bh:Hid (w2.ownsRow (w.heap.size+1) 9 1 v4 (ps.length+1) (ps.map Value.string++[.string ((esc s k).1)])):=hown2;have R2:Hid (fF w2 w.heap.size):=(R1.o.alloc _).grown jC (fun r hr=>by have:=(qK.o.lt r hr).1;omega);clear hown2 jC;go_wp2_with fail;go_roundg f;case measure=>omega
      case rel=>
       refine⟨v4,(esc s k).2,ps++[(esc s k).1],rfl,oo,by simp;omega,?_,HV.o,?_,W2.o,R2.o⟩
       .have:=hsz.o;simp[dN,total,this];omega
       .simpa using Bh.o
    .rw[if_pos hbl]at dW;have hbg:=U5 hbl;have ac0:=AZ (s:=s) (i:=k) oo;generalize hkb:Sp.blk s k=kb at *;have HKB:Hid (Sp.blk s k=kb):=hkb;clear hkb;by_cases hbe:s.size<=kb
     .have hnone:(pk s kb != -1)=false:=by rw[mO hbe];rfl
      have ac1:(pk s kb != 41)=true:=by rw[mO hbe];rfl
      rw[if_pos hbe]at dW;have HV:Hid (jy s f kb (aB ps)=link s (Sp.blk s i)):=by
       show _=_;rw[<-dW];cases f with
       |zero=>rfl
       |succ f'=>unfold jy;rw[if_pos hbe]
      clear dW;go_wp2_with fail;refine dK (ak s b (k) _ (k) _ (H2.o.1) ⟨oo,oo,oo⟩) fun nq=>?_;go_wp2_with fail;refine aN (bF _ _) ?_;go_wp2_with fail;refine pmb (lH s b k _ (H2.o.1.drewN _)) fun w1 aj=>?_;have W1:Hid (aG b s kb w w1):=by have:=(H2.o.drewN _).trans aj;rw[HKB.o]at this;exact this
      have qK:Hid (w1.ownsRow (w.heap.size+1) 9 1 v3 ps.length (ps.map Value.string)):=fA (bW HO.o _) aj.2 oo;have R1:Hid (fF w1 w.heap.size):=(HR.o.drewN _).turn aj.2 oo;clear aj;go_wp2_with fail;refine dK (ak s b (kb) _ (kb) _ (W1.o.1) ⟨oo,oo,oo⟩) fun nq=>?_;go_wp2_with fail;refine dK (ak s b (kb) _ (kb) _ (W1.o.1.drewN _) ⟨oo,oo,oo⟩) fun nq=>?_;go_wp2_with fail;go_roundg f;case measure=>omega
      case rel=>exact⟨v3,kb,ps,rfl,oo,oo,oo,HV.o,bW qK.o _,W1.o.drewN _,R1.o.drewN _⟩
     .have hlb:kb<s.size:=oo;have hnone:(pk s kb != -1)=true:=by have:=tV hlb;simp;omega
      rw[if_neg hbe]at dW;by_cases zU:pk s kb=41
      .have ac1:(pk s kb != 41)=false:=by rw[zU];rfl
       rw[if_pos zU]at dW;have HV:Hid (jy s f kb (aB ps)=link s (Sp.blk s i)):=by show _=_;rw[<-dW];obtain⟨f',rfl⟩:∃f',f=f'+1:=⟨f-1,oo⟩;unfold jy;rw[if_neg hbe,if_pos zU]
       clear dW zU;go_wp2_with fail;refine dK (ak s b (k) _ (k) _ (H2.o.1) ⟨oo,oo,oo⟩) fun nq=>?_;go_wp2_with fail;refine aN (bF _ _) ?_;go_wp2_with fail;refine pmb (lH s b k _ (H2.o.1.drewN _)) fun w1 aj=>?_;have W1:Hid (aG b s kb w w1):=by have:=(H2.o.drewN _).trans aj;rw[HKB.o]at this;exact this
       have qK:Hid (w1.ownsRow (w.heap.size+1) 9 1 v3 ps.length (ps.map Value.string)):=fA (bW HO.o _) aj.2 oo;have R1:Hid (fF w1 w.heap.size):=(HR.o.drewN _).turn aj.2 oo;clear aj;go_wp2_with fail;refine dK (ak s b (kb) _ (kb) _ (W1.o.1) ⟨oo,oo,oo⟩) fun nq=>?_;go_wp2_with fail;go_roundg f;case measure=>omega
       case rel=>exact⟨v3,kb,ps,rfl,oo,oo,oo,HV.o,bW qK.o _,W1.o.drewN _,R1.o.drewN _⟩
      .have ac1:(pk s kb != 41)=true:=by simpa using zU
       rw[if_neg zU]at dW;have HV:Hid (link s (Sp.blk s i)=(Tok.k 13,bad s kb)):=dW.symm;clear dW zU;go_wp2_with fail;refine dK (ak s b (k) _ (k) _ (H2.o.1) ⟨oo,oo,oo⟩) fun nq=>?_;go_wp2_with fail;refine aN (bF _ _) ?_;go_wp2_with fail;refine pmb (lH s b k _ (H2.o.1.drewN _)) fun w1 aj=>?_;have W1:Hid (aG b s kb w w1):=by have:=(H2.o.drewN _).trans aj;rw[HKB.o]at this;exact this
       have qK:Hid (w1.ownsRow (w.heap.size+1) 9 1 v3 ps.length (ps.map Value.string)):=fA (bW HO.o _) aj.2 oo;have R1:Hid (fF w1 w.heap.size):=(HR.o.drewN _).turn aj.2 oo;clear aj;go_wp2_with fail;refine dK (ak s b (kb) _ (kb) _ (W1.o.1) ⟨oo,oo,oo⟩) fun nq=>?_;go_wp2_with fail;refine dK (ak s b (kb) _ (kb) _ (W1.o.1.drewN _) ⟨oo,oo,oo⟩) fun nq=>?_;go_wp2_with fail;go_step3
       refine hF.go _ _ _ _ rfl ?_;clear hF;go_wp2_with fail;refine pmb (xJ s b (kb) _ ((W1.o.drewN _)).1) fun w5 aj=>?_;have W5:Hid (aG b s (bad s (kb)) w w5):=((W1.o.drewN _)).trans aj;have R5:Hid (fF w5 w.heap.size):=((R1.o.drewN _)).turn aj.2 oo;clear aj;have r0:=R5.o.c0;have r1:=R5.o.c1;have r2:=R5.o.c2;have rf:=R5.o.f;have rl:=R5.o.lt;go_wp2_with fail;try rw[Exit.noGoto_ret]
       refine bodyPost_ret (v:=aF (Tok.k 13)) (by simp[results,Tryz.results237,go_sem,aF,Tok.k,r0,r1,r2];rfl) rfl ⟨?_,?_⟩
       .rw[HV.o]
       .rw[HV.o];exact((W5.o.dG hbw nl _ _).dG hbw nl _ _).dG hbw nl _ _
theorem yt(s:ByteArray):∀f i acc,i<=s.size->(jI s f i acc).1.size+i<=acc.size+(jI s f i acc).2
 |0,i,acc,h=>Nat.le_refl _
 |f+1,i,acc,h=>by
  unfold jI;split
  .rename_i h1;have hl:=dX (vU h1);have:=yt s f (i+1) (acc++one s i) oo;have h2:=iE hl;rw[ByteArray.size_append,h2]at this;omega
  .split
   .rename_i h1;have hl:=Jq h1;have:=yt s f (esc s i).2 (acc++(esc s i).1) (og hl);have h2:=kZ (s:=s) (i:=i);have h3:=nG s i;rw[ByteArray.size_append,h2]at this;omega
   .exact Nat.le_refl _
theorem IU{s:ByteArray}{i:Nat}(h:i<=s.size):(name s i).1.size<=s.size:=by have h1:=yt s s.size i ByteArray.empty h;have h2:=rY h;have h3:ByteArray.empty.size=0:=rfl;unfold name at h2⊢;omega
theorem wC(x:ByteArray):(x.toList==[117,114,108])=decide (x=url):=by
 rw[Bool.eq_iff_iff];simp only[beq_iff_eq,decide_eq_true_eq];rw[ByteArray.toList_eq];constructor
 .intro h;obtain⟨⟨l⟩⟩:=x;simp only at h;rw[h];rfl
 .intro h;rw[h];rfl
theorem JJ(s:ByteArray)(b i:Nat)(w:World)(h:Sc w b s i):
  Calls prog 170 #[.pointer (some ⟨b,0,none⟩)] w fun e w'=>e=.returned (aF (named s i).1)/\aG b s (named s i).2 w w':=by
 have W:=aG.nh h;have R:=fF.nh w;have hbw:b<w.heap.size:=h.lt;have hs:s.size<=600:=h.len;clear h;have hns:=IU W.o.1.le;have hnl:=rY W.o.1.le;obtain⟨x,k,HX⟩:∃x k,Hid (name s i=(x,k)):=⟨_,_,rfl⟩;have aec:x.size<=s.size:=by have:=HX.o;rw[this]at hns;exact hns
 have aed:k<=s.size:=by have:=HX.o;rw[this]at hnl;exact hnl
 clear hns hnl;by_cases pU:pk s k=40
 .have e0:(pk s k != 40)=false:=by rw[pU];rfl
  have hlt:k<s.size:=dX oo;by_cases hu:small x=url
  .have eu:((small x).toList==[117,114,108])=true:=by rw[wC];simp[hu]
   cases hq:fU (pk s (Sp.blk s (k+1)))
   .have HV:Hid (named s i=link s (Sp.blk s (k+1))):=by
     show _=_;unfold named;rw[HX.o];dsimp only;rw[if_pos pU,if_pos ⟨hu,hq⟩]
    clear pU hu;go_in;go_wp2_with fail;refine(yc s b i _ W.o.1).mono ?_;rw[HX.o];rintro e w1 ⟨rfl,aj⟩;have W1:Hid (aG b s k w w1):=W.o.trans aj;have R1:Hid (fF w1 w.heap.size):=R.o.turn aj.2 oo;clear aj;have c01:=W1.o.1.c0;have c11:=W1.o.1.c1;have cf1:=W1.o.1.f1;have VZ:=W1.o.1.lt;have cs1:=W1.o.1.len;have V3:=W1.o.1.le;go_wp2_with fail;refine dK (ak s b (k) _ (k) _ (W1.o.1) ⟨oo,oo,oo⟩) fun nq=>?_;go_wp2_with fail;refine pmb (oH x _ oo) fun w2 hb2=>?_;have W2:Hid (aG b s (k+1) w w2):=((W1.o.drewN _).jw _ (k+1) oo oo).below hb2;have R2:Hid (fF w2 w.heap.size):=((R1.o.drewN _).set oo _).below hb2;clear hb2;go_wp2_with fail;refine pmb (uX s b (k+1) _ W2.o.1) fun w3 aj=>?_;have W3:Hid (aG b s (k+1) w w3):=W2.o.trans aj
    have R3:Hid (fF w3 w.heap.size):=R2.o.turn aj.2 oo;clear aj;go_wp2_with fail;refine pmb (abh s b (k+1) _ W3.o.1) fun w4 aj=>?_;have W4:Hid (aG b s (link s (Sp.blk s (k+1))).2 w w4):=W3.o.trans aj;have R4:Hid (fF w4 w.heap.size):=R3.o.turn aj.2 oo;clear aj;have r0:=R4.o.c0;have r1:=R4.o.c1;have r2:=R4.o.c2;have rf:=R4.o.f;have rl:=R4.o.lt;unfold aF;go_wp2_with fail;refine bodyPost_ret (v:=aF (link s (Sp.blk s (k+1))).1) (by simp[results,Tryz.results170,go_sem,aF,r0,r1,r2]) rfl ⟨?_,?_⟩
    .rw[HV.o]
    .rw[HV.o];exact((W4.o.dG hbw nl _ _).dG hbw nl _ _).dG hbw nl _ _
   .have HV:Hid (named s i=(Tok.w 11 x,k+1)):=by
     show _=_;unfold named;rw[HX.o];dsimp only;rw[if_pos pU,if_neg (by simp[hq])]
    clear pU hu;go_in;go_wp2_with fail;refine(yc s b i _ W.o.1).mono ?_;rw[HX.o];rintro e w1 ⟨rfl,aj⟩;have W1:Hid (aG b s k w w1):=W.o.trans aj;have R1:Hid (fF w1 w.heap.size):=R.o.turn aj.2 oo;clear aj;have c01:=W1.o.1.c0;have c11:=W1.o.1.c1;have cf1:=W1.o.1.f1;have VZ:=W1.o.1.lt;have cs1:=W1.o.1.len;have V3:=W1.o.1.le;go_wp2_with fail;refine dK (ak s b (k) _ (k) _ (W1.o.1) ⟨oo,oo,oo⟩) fun nq=>?_;go_wp2_with fail;refine pmb (oH x _ oo) fun w2 hb2=>?_;have W2:Hid (aG b s (k+1) w w2):=((W1.o.drewN _).jw _ (k+1) oo oo).below hb2;have R2:Hid (fF w2 w.heap.size):=((R1.o.drewN _).set oo _).below hb2;clear hb2;go_wp2_with fail;refine pmb (uX s b (k+1) _ W2.o.1) fun w3 aj=>?_;have W3:Hid (aG b s (k+1) w w3):=W2.o.trans aj
    have R3:Hid (fF w3 w.heap.size):=R2.o.turn aj.2 oo;clear aj;have r0:=R3.o.c0;have r1:=R3.o.c1;have r2:=R3.o.c2;have rf:=R3.o.f;have rl:=R3.o.lt;go_wp2_with fail;refine bodyPost_ret (v:=aF (Tok.w 11 x)) (by simp[results,Tryz.results170,go_sem,aF,Tok.w,r0,r1,r2];rfl) rfl ⟨?_,?_⟩
    .rw[HV.o]
    .rw[HV.o];exact((W3.o.dG hbw nl _ _).dG hbw nl _ _).dG hbw nl _ _
  .have eu:((small x).toList==[117,114,108])=false:=by rw[wC];simp[hu]
   have HV:Hid (named s i=(Tok.w 11 x,k+1)):=by show _=_;unfold named;rw[HX.o];dsimp only;rw[if_pos pU,if_neg (by simp[hu])]
   clear pU hu;go_in;go_wp2_with fail;refine(yc s b i _ W.o.1).mono ?_;rw[HX.o];rintro e w1 ⟨rfl,aj⟩;have W1:Hid (aG b s k w w1):=W.o.trans aj;have R1:Hid (fF w1 w.heap.size):=R.o.turn aj.2 oo;clear aj;have c01:=W1.o.1.c0;have c11:=W1.o.1.c1;have cf1:=W1.o.1.f1;have VZ:=W1.o.1.lt;have cs1:=W1.o.1.len;have V3:=W1.o.1.le;go_wp2_with fail;refine dK (ak s b (k) _ (k) _ (W1.o.1) ⟨oo,oo,oo⟩) fun nq=>?_;go_wp2_with fail;refine pmb (oH x _ oo) fun w2 hb2=>?_;have W2:Hid (aG b s (k+1) w w2):=((W1.o.drewN _).jw _ (k+1) oo oo).below hb2;have R2:Hid (fF w2 w.heap.size):=((R1.o.drewN _).set oo _).below hb2;clear hb2;have r0:=R2.o.c0;have r1:=R2.o.c1;have r2:=R2.o.c2;have rf:=R2.o.f;have rl:=R2.o.lt;go_wp2_with fail
   refine bodyPost_ret (v:=aF (Tok.w 11 x)) (by simp[results,Tryz.results170,go_sem,aF,Tok.w,r0,r1,r2];rfl) rfl ⟨?_,?_⟩
   .rw[HV.o]
   .rw[HV.o];exact((W2.o.dG hbw nl _ _).dG hbw nl _ _).dG hbw nl _ _
 .have e0:(pk s k != 40)=true:=by simpa using pU
  have HV:Hid (named s i=(Tok.w 14 x,k)):=by show _=_;unfold named;rw[HX.o];dsimp only;rw[if_neg pU]
  clear pU;go_in;go_wp2_with fail;refine(yc s b i _ W.o.1).mono ?_;rw[HX.o];rintro e w1 ⟨rfl,aj⟩;have W1:Hid (aG b s k w w1):=W.o.trans aj;have R1:Hid (fF w1 w.heap.size):=R.o.turn aj.2 oo;clear aj;have c01:=W1.o.1.c0;have c11:=W1.o.1.c1;have cf1:=W1.o.1.f1;have VZ:=W1.o.1.lt;have cs1:=W1.o.1.len;have V3:=W1.o.1.le;go_wp2_with fail;refine dK (ak s b (k) _ (k) _ (W1.o.1) ⟨oo,oo,oo⟩) fun nq=>?_;have r0:=R1.o.c0;have r1:=R1.o.c1;have r2:=R1.o.c2;have rf:=R1.o.f;have rl:=R1.o.lt;go_wp2_with fail;refine bodyPost_ret (v:=aF (Tok.w 14 x)) (by simp[results,Tryz.results170,go_sem,aF,Tok.w,r0,r1,r2];rfl) rfl ⟨?_,?_⟩
  .rw[HV.o]
  .rw[HV.o];exact(((W1.o.drewN _).dG hbw nl _ _).dG hbw nl _ _).dG hbw nl _ _
theorem Tt(s:ByteArray)(i j:Int)(k n:Nat)(w:World)(hi:i=k)(hj:j=n)(hs:s.size<=600)(hk:k<=n)(hn:n<=s.size)(HN:Hid (dL s k=n)):
  Calls prog 129 #[.string s,.int .i64 i,.int .i64 j] w fun e w'=>e=.returned (.tuple #[aF (Sp.numeric s k).1,.int .i64 ((Sp.numeric s k).2:Int)])/\Below w.heap.size w w':=by
 subst hi hj;have W0:=RW.nh w;have hsl:∀w:World,(Instr.slice 9 (.string s) (some (.int .i64 (k:Int))) (some (.int .i64 (n:Int))) none).run prog w=.ok (.string (s.extract k n)) w:=by intro w;rw[run_slice_string_if w 9 s .i64 .i64 _ _ Tryz.underlying9,if_pos ⟨oo,oo⟩,if_pos ⟨oo,oo⟩];simp
 by_cases h37:pk s n=37
 .have e1:(a0 s n==37)=true:=by rw[jP s n 37 oo,h37];rfl
  have HV:Hid (Sp.numeric s k=(Tok.w 6 (s.extract k n),n+1)):=by show _=_;unfold Sp.numeric;dsimp only;rw[HN.o,if_pos h37]
  clear h37;go_in;go_wp2_with fail;refine aN (bK s _ n _ oo oo oo) ?_;go_wp2_with fail;refine aN (eY s _ (n) _ oo oo) ?_;go_wp2_with fail;refine bodyPost_ret (v:=.tuple #[aF (Tok.w 6 (s.extract k n)),.int .i64 ((n:Int)+1)]) (by simp[results,Tryz.results129,go_sem,aF,Tok.w];rfl) rfl ⟨?_,(Below.refl _ _).alloc nl _⟩;rw[HV.o];rfl
 .have e1:(a0 s n==37)=false:=by rw[jP s n 37 oo];simpa using h37
  cases hb:iq s n
  .have HV:Hid (Sp.numeric s k=(Tok.w 5 (s.extract k n),n)):=by
    show _=_;unfold Sp.numeric;dsimp only;rw[HN.o,if_neg h37,if_neg (by simp[hb])]
   clear h37;go_in;go_wp2_with fail;refine aN (bK s _ n _ oo oo oo) ?_;go_wp2_with fail;refine aN (eY s _ (n) _ oo oo) ?_;go_wp2_with fail;refine bodyPost_ret (v:=.tuple #[aF (Tok.w 5 (s.extract k n)),.int .i64 ((n:Int))]) (by simp[results,Tryz.results129,go_sem,aF,Tok.w];rfl) rfl ⟨?_,(Below.refl _ _).alloc nl _⟩;rw[HV.o]
  .have HV:Hid (Sp.numeric s k=(⟨7,s.extract k n,(Sp.name s n).1⟩,(Sp.name s n).2)):=by
    show _=_;unfold Sp.numeric;dsimp only;rw[HN.o,if_neg h37,if_pos hb]
   clear h37;go_in;go_wp2_with fail;refine aN (bK s _ n _ oo oo oo) ?_;go_wp2_with fail;refine aN (eY s _ (n) _ oo oo) ?_;go_wp2_with fail;refine pmb (uV s _ n _ oo oo oo) fun w1 hb1=>?_;have W1:Hid (RW w w1):=W0.o.below hb1;have R1:Hid (fF w1 w.heap.size):=W1.o.2;clear hb1;have r0:=R1.o.c0;have r1:=R1.o.c1;have r2:=R1.o.c2;have rf:=R1.o.f;have rl:=R1.o.lt;go_wp2_with fail;refine bodyPost_ret (v:=.tuple #[aF (⟨7,s.extract k n,(Sp.name s n).1⟩),.int .i64 (((Sp.name s n).2:Int))]) (by simp[results,Tryz.results129,go_sem,aF,r0,r1,r2]) rfl ⟨?_,W1.o.jr _ _ _⟩;rw[HV.o]
theorem JK(s:ByteArray)(i:Int)(k:Nat)(w:World)(hi:i=k)(hs:s.size<=600)(hk:k<=s.size):
  Calls prog 130 #[.string s,.int .i64 i] w fun e w'=>e=.returned (.tuple #[aF (named s k).1,.int .i64 ((named s k).2:Int)])/\Below w.heap.size w w':=by
 subst hi;have W0:=RW.nh w;have hns:=IU hk;have hnl:=rY hk;obtain⟨x,n,HX⟩:∃x n,Hid (Sp.name s k=(x,n)):=⟨_,_,rfl⟩;have aec:x.size<=s.size:=by have:=HX.o;rw[this]at hns;exact hns
 have aed:n<=s.size:=by have:=HX.o;rw[this]at hnl;exact hnl
 clear hns hnl;by_cases pU:pk s n=40
 .have e0:(a0 s n != 40)=false:=by rw[xZ s n 40 oo,pU];rfl
  have hlt:n<s.size:=dX oo;have hbl:=AZ (s:=s) (i:=n+1) oo;obtain⟨kb,HKB⟩:∃kb,Hid (Sp.blk s (n+1)=kb):=⟨_,rfl⟩;rw[HKB.o]at hbl;by_cases hu:small x=url
  .have eu:((small x).toList==[117,114,108])=true:=by rw[wC];simp[hu]
   cases uj:(a0 s kb != 34)
   .have HV:Hid (named s k=(Tok.w 11 x,n+1)):=by
     show _=_;unfold named;rw[HX.o];dsimp only;rw[HKB.o,if_pos pU,if_neg (fun h=>by
      rw[xZ s kb 34 oo]at uj;have e:pk s kb=34:=by simpa using uj
      have:=h.2;rw[e]at this;exact absurd this (by decide))]
    clear pU hu;go_in;go_wp2_with fail;refine(uV s _ k _ oo oo oo).mono ?_;rw[HX.o];rintro e w1 ⟨rfl,hb1⟩;have W1:Hid (RW w w1):=W0.o.below hb1;clear hb1;go_wp2_with fail;refine pmb (eY s _ n _ oo oo) fun wq hwq=>?_;rw[hwq];clear hwq;go_wp2_with fail;refine(nM s _ (n+1) _ oo oo oo).mono ?_;rw[HKB.o];rintro e wq ⟨rfl,hwq⟩;rw[hwq];clear hwq;go_wp2_with fail;refine pmb (gW x _ oo) fun w2 hb2=>?_;have W2:Hid (RW w w2):=W1.o.below hb2;have R2:Hid (fF w2 w.heap.size):=W2.o.2;clear hb2;go_wp2_with fail;refine pmb (eY s _ kb _ oo oo) fun wq hwq=>?_;rw[hwq];clear hwq;have r0:=R2.o.c0;have r1:=R2.o.c1;have r2:=R2.o.c2;have rf:=R2.o.f;have rl:=R2.o.lt;go_wp2_with fail
    refine bodyPost_ret (v:=.tuple #[aF (Tok.w 11 x),.int .i64 ((n:Int)+1)]) (by simp[results,Tryz.results130,go_sem,aF,Tok.w,r0,r1,r2];rfl) rfl ⟨?_,W2.o.jr _ _ _⟩;rw[HV.o];rfl
   .cases uY:(a0 s kb != 39)
    .have HV:Hid (named s k=(Tok.w 11 x,n+1)):=by
      show _=_;unfold named;rw[HX.o];dsimp only;rw[HKB.o,if_pos pU,if_neg (fun h=>by
       rw[xZ s kb 39 oo]at uY;have e:pk s kb=39:=by simpa using uY
       have:=h.2;rw[e]at this;exact absurd this (by decide))]
     clear pU hu;go_in;go_wp2_with fail;refine(uV s _ k _ oo oo oo).mono ?_;rw[HX.o];rintro e w1 ⟨rfl,hb1⟩;have W1:Hid (RW w w1):=W0.o.below hb1;clear hb1;go_wp2_with fail;refine pmb (eY s _ n _ oo oo) fun wq hwq=>?_;rw[hwq];clear hwq;go_wp2_with fail;refine(nM s _ (n+1) _ oo oo oo).mono ?_;rw[HKB.o];rintro e wq ⟨rfl,hwq⟩;rw[hwq];clear hwq;go_wp2_with fail;refine pmb (gW x _ oo) fun w2 hb2=>?_;have W2:Hid (RW w w2):=W1.o.below hb2;have R2:Hid (fF w2 w.heap.size):=W2.o.2;clear hb2;go_wp2_with fail;refine pmb (eY s _ kb _ oo oo) fun wq hwq=>?_;rw[hwq];clear hwq;go_wp2_with fail;refine pmb (eY s _ kb _ oo oo) fun wq hwq=>?_;rw[hwq];clear hwq;have r0:=R2.o.c0;have r1:=R2.o.c1;have r2:=R2.o.c2;have rf:=R2.o.f;have rl:=R2.o.lt;go_wp2_with fail
     refine bodyPost_ret (v:=.tuple #[aF (Tok.w 11 x),.int .i64 ((n:Int)+1)]) (by simp[results,Tryz.results130,go_sem,aF,Tok.w,r0,r1,r2];rfl) rfl ⟨?_,W2.o.jr _ _ _⟩;rw[HV.o];rfl
    .have HV:Hid (named s k=link s kb):=by
      show _=_;unfold named;rw[HX.o];dsimp only;rw[HKB.o,if_pos pU,if_pos ⟨hu,by
       rw[xZ s kb 34 oo]at uj;rw[xZ s kb 39 oo]at uY;have n34:pk s kb≠34:=by simpa using uj
       have n39:pk s kb≠39:=by simpa using uY
       simp[fU,n34,n39]⟩]
     clear pU hu;go_in;go_wp2_with fail;refine(uV s _ k _ oo oo oo).mono ?_;rw[HX.o];rintro e w1 ⟨rfl,hb1⟩;have W1:Hid (RW w w1):=W0.o.below hb1;clear hb1;go_wp2_with fail;refine pmb (eY s _ n _ oo oo) fun wq hwq=>?_;rw[hwq];clear hwq;go_wp2_with fail;refine(nM s _ (n+1) _ oo oo oo).mono ?_;rw[HKB.o];rintro e wq ⟨rfl,hwq⟩;rw[hwq];clear hwq;go_wp2_with fail;refine pmb (gW x _ oo) fun w2 hb2=>?_;have W2:Hid (RW w w2):=W1.o.below hb2;have R2:Hid (fF w2 w.heap.size):=W2.o.2;clear hb2;go_wp2_with fail;refine pmb (eY s _ kb _ oo oo) fun wq hwq=>?_;rw[hwq];clear hwq;go_wp2_with fail;refine pmb (eY s _ kb _ oo oo) fun wq hwq=>?_;rw[hwq];clear hwq;go_wp2_with fail;refine pmb (abf s _ kb _ oo oo oo) fun w3 hb3=>?_;have W3:Hid (RW w w3):=W2.o.below hb3
     have R3:Hid (fF w3 w.heap.size):=W3.o.2;clear hb3;have r0:=R3.o.c0;have r1:=R3.o.c1;have r2:=R3.o.c2;have rf:=R3.o.f;have rl:=R3.o.lt;unfold aF;go_wp2_with fail;refine bodyPost_ret (v:=.tuple #[aF ((link s kb).1),.int .i64 (((link s kb).2:Int))]) (by simp[results,Tryz.results130,go_sem,aF,r0,r1,r2]) rfl ⟨?_,W3.o.jr _ _ _⟩;rw[HV.o]
  .have eu:((small x).toList==[117,114,108])=false:=by rw[wC];simp[hu]
   have HV:Hid (named s k=(Tok.w 11 x,n+1)):=by show _=_;unfold named;rw[HX.o];dsimp only;rw[if_pos pU,if_neg (by simp[hu])]
   clear pU hu;go_in;go_wp2_with fail;refine(uV s _ k _ oo oo oo).mono ?_;rw[HX.o];rintro e w1 ⟨rfl,hb1⟩;have W1:Hid (RW w w1):=W0.o.below hb1;clear hb1;go_wp2_with fail;refine pmb (eY s _ n _ oo oo) fun wq hwq=>?_;rw[hwq];clear hwq;go_wp2_with fail;refine(nM s _ (n+1) _ oo oo oo).mono ?_;rw[HKB.o];rintro e wq ⟨rfl,hwq⟩;rw[hwq];clear hwq;go_wp2_with fail;refine pmb (gW x _ oo) fun w2 hb2=>?_;have W2:Hid (RW w w2):=W1.o.below hb2;have R2:Hid (fF w2 w.heap.size):=W2.o.2;clear hb2;have r0:=R2.o.c0;have r1:=R2.o.c1;have r2:=R2.o.c2;have rf:=R2.o.f;have rl:=R2.o.lt;go_wp2_with fail;refine bodyPost_ret (v:=.tuple #[aF (Tok.w 11 x),.int .i64 ((n:Int)+1)]) (by simp[results,Tryz.results130,go_sem,aF,Tok.w,r0,r1,r2];rfl) rfl ⟨?_,W2.o.jr _ _ _⟩;rw[HV.o];rfl
 .have e0:(a0 s n != 40)=true:=by rw[xZ s n 40 oo];simpa using pU
  have HV:Hid (named s k=(Tok.w 14 x,n)):=by show _=_;unfold named;rw[HX.o];dsimp only;rw[if_neg pU]
  clear pU;go_in;go_wp2_with fail;refine(uV s _ k _ oo oo oo).mono ?_;rw[HX.o];rintro e w1 ⟨rfl,hb1⟩;have W1:Hid (RW w w1):=W0.o.below hb1;have R1:Hid (fF w1 w.heap.size):=W1.o.2;clear hb1;go_wp2_with fail;refine pmb (eY s _ n _ oo oo) fun wq hwq=>?_;rw[hwq];clear hwq;have r0:=R1.o.c0;have r1:=R1.o.c1;have r2:=R1.o.c2;have rf:=R1.o.f;have rl:=R1.o.lt;go_wp2_with fail;refine bodyPost_ret (v:=.tuple #[aF (Tok.w 14 x),.int .i64 ((n:Int))]) (by simp[results,Tryz.results130,go_sem,aF,Tok.w,r0,r1,r2];rfl) rfl ⟨?_,W1.o.jr _ _ _⟩;rw[HV.o]
end Go.Proofs.YtlliliddljkbfaaGreatDoor
