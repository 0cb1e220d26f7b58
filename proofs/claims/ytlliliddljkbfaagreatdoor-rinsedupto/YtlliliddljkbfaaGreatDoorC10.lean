import Derived.Test.YtlliliddljkbfaaGreatDoorC2
import Derived.Test.YtlliliddljkbfaaGreatDoorC9
import Derived.Scope
import Derived.ScopeJumps
namespace Go.Proofs.YtlliliddljkbfaaGreatDoor
set_option maxHeartbeats 64000000
set_option maxRecDepth 100000
open Go.Proofs.Tryz (prog)
open Go.RowKit Sp
def a0(s:ByteArray)(k:Nat):Int:=if k<s.size then pk s k else 0
theorem aaB{s:ByteArray}{k:Nat}(h:k<s.size):a0 s k=pk s k:=by unfold a0;rw[if_pos h]
theorem VQ{s:ByteArray}{k:Nat}(h:s.size<=k):a0 s k=0:=by unfold a0;rw[if_neg oo]
theorem acL(s:ByteArray)(k:Nat):0<=a0 s k:=by unfold a0;split;(exact tV ‹_›);omega
theorem acM(s:ByteArray)(k:Nat):a0 s k<=255:=by unfold a0;split;(exact D7 s k);omega
theorem Bf{α:Type}(f:Int->α)(hf:f 0=f (-1))(s:ByteArray)(k:Nat):f (a0 s k)=f (pk s k):=by
 by_cases h:k<s.size
 .rw[aaB h]
 .rw[VQ oo,mO oo,hf]
theorem qL(s:ByteArray)(k:Nat):aP (a0 s k)=aP (pk s k):=Bf aP rfl s k
theorem Rk(s:ByteArray)(k:Nat):iY (a0 s k)=iY (pk s k):=Bf iY rfl s k
theorem Rl(s:ByteArray)(k:Nat):iD (a0 s k)=iD (pk s k):=Bf iD rfl s k
theorem kM(s:ByteArray)(k:Nat):bJ (a0 s k)=bJ (pk s k):=Bf bJ rfl s k
theorem OQ(s:ByteArray)(k:Nat):nD (a0 s k)=nD (pk s k):=Bf nD rfl s k
theorem jP(s:ByteArray)(k:Nat)(n:Int)(hn:0<n):(a0 s k==n)=(pk s k==n):=Bf (fun c=>c==n) (by show((0:Int)==n)=((-1:Int)==n);rw[Bool.eq_iff_iff];simp;omega) s k
theorem xZ(s:ByteArray)(k:Nat)(n:Int)(hn:0<n):(a0 s k != n)=(pk s k != n):=by unfold bne;rw[jP s k n hn]
theorem eY(s:ByteArray)(i:Int)(k:Nat)(w:World)(hi:i=k)(_hs:s.size<=600):
  Calls prog 124 #[.string s,.int .i64 i] w fun e w'=>e=.returned (.int .u8 (a0 s k))/\w'=w:=by
 subst hi;by_cases h:k<s.size
 .have hix:=aV s k h;have h1:(k:Int)<(s.size:Int):=oo;go_in;go_wp2_with fail;go_ret;exact⟨wL (aaB h).symm,rfl⟩
 .have h1:(s.size:Int)<=(k:Int):=oo;go_in;go_wp2_with fail;go_ret;exact⟨wL (VQ oo).symm,rfl⟩
theorem aU(s:ByteArray)(i:Int)(k:Nat)(w:World)(hi:i=k)(hs:s.size<=600)(hk:k<=1000):
  Calls prog 125 #[.string s,.int .i64 i] w fun e w'=>e=.returned (.bool (jq s k))/\w'=w:=by
 subst hi;cases wM:(pk s k==92)
 .have e1:(a0 s k==92)=false:=by rw[jP s k 92 oo];exact wM
  have HV:Hid (jq s k=false):=by show jq s k=false;simp[jq,wM]
  go_in;go_wp2_with fail;refine aN (eY s _ (k) _ oo oo) ?_;go_wp2_with fail;go_ret;exact⟨aI HV.o.symm,rfl⟩
 .have e1:(a0 s k==92)=true:=by rw[jP s k 92 oo];exact wM
  have HV:Hid (jq s k=(a0 s (k+1) != 10)):=by show jq s k=_;rw[xZ s (k+1) 10 oo];simp[jq,wM]
  go_in;go_wp2_with fail;refine aN (eY s _ (k) _ oo oo) ?_;go_wp2_with fail;refine aN (eY s _ (k+1) _ oo oo) ?_;go_wp2_with fail;go_ret;exact⟨aI HV.o.symm,rfl⟩
theorem bK(s:ByteArray)(i:Int)(k:Nat)(w:World)(hi:i=k)(hs:s.size<=600)(hk:k<=900):
  Calls prog 122 #[.string s,.int .i64 i] w fun e w'=>e=.returned (.bool (iq s k))/\w'=w:=by
 subst hi;cases h45:(pk s k==45)
 .have e1:(a0 s k==45)=false:=by rw[jP s k 45 oo];exact h45
  have n45:¬pk s k=45:=by simpa using h45
  have HV:Hid (iq s k=(iY (a0 s k)||jq s k)):=by show iq s k=_;rw[Rk];simp[iq,n45]
  clear n45;cases hl:iY (a0 s k);all_goals
   go_in;go_wp2_with fail;refine aN (eY s _ (k) _ oo oo) ?_;go_wp2_with fail;refine aN (aU s _ k _ oo oo oo) ?_;go_wp2_with fail;refine aN (dB _ _) ?_;go_wp2_with fail;go_ret;exact⟨aI (by rw[HV.o,hl];simp),rfl⟩
 .have e1:(a0 s k==45)=true:=by rw[jP s k 45 oo];exact h45
  have n45:pk s k=45:=by simpa using h45
  have HV:Hid (iq s k=(iY (a0 s (k+1))||a0 s (k+1)==45||jq s (k+1))):=by show iq s k=_;rw[Rk,jP s (k+1) 45 oo];simp[iq,n45]
  clear n45;cases hl:iY (a0 s (k+1))<;>cases hd:(a0 s (k+1)==45)
  all_goals
   go_in;go_wp2_with fail;refine aN (eY s _ (k) _ oo oo) ?_;go_wp2_with fail;refine aN (aU s _ k _ oo oo oo) ?_;go_wp2_with fail;refine aN (dB _ _) ?_;go_wp2_with fail;refine aN (eY s _ (k+1) _ oo oo) ?_;go_wp2_with fail;refine aN (dB _ _) ?_;go_wp2_with fail;refine aN (aU s _ (k+1) _ oo oo oo) ?_;go_wp2_with fail;go_ret;exact⟨aI (by rw[HV.o,hl,hd];simp),rfl⟩
theorem Es(s:ByteArray)(i:Int)(k:Nat)(w:World)(hi:i=k)(hs:s.size<=600)(hk:k<=1000):
  Calls prog 196 #[.string s,.int .i64 i] w fun e w'=>e=.returned (.int .i64 (fO s k))/\w'=w:=by
 subst hi;cases h43:(pk s k==43)
 .have e1:(a0 s k==43)=false:=by rw[jP s k 43 oo];exact h43
  cases h45:(pk s k==45)
  .have e2:(a0 s k==45)=false:=by rw[jP s k 45 oo];exact h45
   have HV:Hid (fO s k=k):=by show fO s k=k;simp[fO,tN,h43,h45]
   go_in;go_wp2_with fail;refine aN (eY s _ (k) _ oo oo) ?_;go_wp2_with fail;refine aN (eY s _ (k) _ oo oo) ?_;go_wp2_with fail;go_ret;exact⟨wL (by rw[HV.o]),rfl⟩
  .have e2:(a0 s k==45)=true:=by rw[jP s k 45 oo];exact h45
   have HV:Hid (fO s k=k+1):=by show fO s k=_;simp[fO,tN,h45]
   go_in;go_wp2_with fail;refine aN (eY s _ (k) _ oo oo) ?_;go_wp2_with fail;refine aN (eY s _ (k) _ oo oo) ?_;go_wp2_with fail;go_ret;exact⟨wL (by rw[HV.o];omega),rfl⟩
 .have e1:(a0 s k==43)=true:=by rw[jP s k 43 oo];exact h43
  have HV:Hid (fO s k=k+1):=by show fO s k=_;simp[fO,tN,h43]
  go_in;go_wp2_with fail;refine aN (eY s _ (k) _ oo oo) ?_;go_wp2_with fail;go_ret;exact⟨wL (by rw[HV.o];omega),rfl⟩
theorem zI(s:ByteArray)(i:Int)(k:Nat)(w:World)(hi:i=k)(hs:s.size<=600)(hk:k<=1000):
  Calls prog 197 #[.string s,.int .i64 i] w fun e w'=>e=.returned (.int .i64 (gJ s k))/\w'=w:=by
 subst hi;go_in;go_wp2_with fail;go_loopg[1] s.size (fun g v1 wr=>∃j:Nat,s.size<=j+g/\j<=1000/\v1=.int .i64 (j:Int)/\Aside (uw s g j=gJ s k/\w=wr));case atStart=>exact⟨k,oo,hk,rfl,rfl,rfl⟩
 case round=>
  obtain⟨j,hj,hj2,rfl,hA⟩:=hrel;have H1:Hid (uw s gk j=gJ s k):=hA.o.1;obtain rfl:=hA.o.2;clear hA;cases hd:aP (pk s j)
  .have e1:aP (a0 s j)=false:=by rw[qL];exact hd
   have HV:Hid (gJ s k=j):=by
    show _=_;rw[<-H1.o];cases gk with
    |zero=>rfl
    |succ f=>unfold uw;rw[if_neg (by simp[hd])]
   go_wp2_with fail;refine aN (eY s _ (j) _ oo oo) ?_;go_wp2_with fail;refine aN (cO _ _) ?_;go_wp2_with fail;go_ret;exact⟨wL (by rw[HV.o]),rfl⟩
  .have e1:aP (a0 s j)=true:=by rw[qL];exact hd
   have hlt:j<s.size:=dX (by have:=kR hd;omega);obtain⟨f,rfl⟩:∃f,gk=f+1:=⟨gk-1,oo⟩;have HV:Hid (uw s f (j+1)=gJ s k):=by have:=H1.o;unfold uw at this;rw[if_pos hd]at this;exact this
   go_wp2_with fail;refine aN (eY s _ (j) _ oo oo) ?_;go_wp2_with fail;refine aN (cO _ _) ?_;go_wp2_with fail;go_roundg f;case measure=>omega
   case rel=>exact⟨j+1,oo,oo,by congr 1,HV.o,rfl⟩
theorem Bg(s:ByteArray)(i:Int)(k:Nat)(t:ByteArray)(w:World)(hi:i=k)(hs:s.size<=600)(hk:k<=s.size)(ht:t.size<=100):
  Calls prog 119 #[.string s,.int .i64 i,.string t] w fun e w'=>e=.returned (.bool (pre s k t.data.toList))/\w'=w:=by
 subst hi;rw[<-VO s k t hk];by_cases h:k+t.size<=s.size
 .have h1:(k:Int)+(t.size:Int)<=(s.size:Int):=oo;have hd:decide (k+t.size<=s.size)=true:=by simpa using h
  rw[hd,Bool.true_and];have hsl:∀w:World,(Instr.slice 9 (.string s) (some (.int .i64 (k:Int))) (some (.int .i64 ((k:Int)+(t.size:Int)))) none).run prog w=.ok (.string (s.extract k (k+t.size))) w:=by intro w;rw[run_slice_string_if w 9 s .i64 .i64 _ _ Tryz.underlying9,if_pos ⟨oo,h1⟩,if_pos ⟨oo,oo⟩];congr 3
  go_in;go_wp2_with fail;go_ret;exact⟨rfl,rfl⟩
 .have h1:(s.size:Int)<(k:Int)+(t.size:Int):=oo;have hd:decide (k+t.size<=s.size)=false:=by simpa using h
  rw[hd,Bool.false_and];go_in;go_wp2_with fail;go_ret;exact⟨rfl,rfl⟩
theorem nM(s:ByteArray)(i:Int)(k:Nat)(w:World)(hi:i=k)(hs:s.size<=600)(hk:k<=1000):
  Calls prog 126 #[.string s,.int .i64 i] w fun e w'=>e=.returned (.int .i64 (Sp.blk s k))/\w'=w:=by
 subst hi;go_in;go_wp2_with fail;go_loopg[1] s.size (fun g v1 wr=>∃j:Nat,s.size<=j+g/\j<=1000/\v1=.int .i64 (j:Int)/\Aside (uq s g j=Sp.blk s k/\w=wr));case atStart=>exact⟨k,oo,hk,rfl,rfl,rfl⟩
 case round=>
  obtain⟨j,hj,hj2,rfl,hA⟩:=hrel;have H1:Hid (uq s gk j=Sp.blk s k):=hA.o.1;obtain rfl:=hA.o.2;clear hA;by_cases hlt:j<s.size
  .have h1:(j:Int)<(s.size:Int):=oo;have hix:=aV s j hlt;cases hb:bJ (pk s j)
   .have HV:Hid (Sp.blk s k=j):=by
     show _=_;rw[<-H1.o];cases gk with
     |zero=>rfl
     |succ f=>unfold uq;rw[if_neg (by simp[hb])]
    go_wp2_with fail;refine aN (aT _ _) ?_;go_wp2_with fail;go_ret;exact⟨wL (by rw[HV.o]),rfl⟩
   .obtain⟨f,rfl⟩:∃f,gk=f+1:=⟨gk-1,oo⟩;have HV:Hid (uq s f (j+1)=Sp.blk s k):=by
     have:=H1.o;unfold uq at this;rw[if_pos hb]at this;exact this
    go_wp2_with fail;refine aN (aT _ _) ?_;go_wp2_with fail;go_roundg f;case measure=>omega
    case rel=>exact⟨j+1,oo,oo,by congr 1,HV.o,rfl⟩
  .have h1:(s.size:Int)<=(j:Int):=oo;have HV:Hid (Sp.blk s k=j):=by
    show _=_;rw[<-H1.o];have hp:=mO (s:=s) (i:=j) oo;cases gk with
    |zero=>rfl
    |succ f=>unfold uq;rw[hp,if_neg (by simp[bJ])]
   go_wp2_with fail;go_ret;exact⟨wL (by rw[HV.o]),rfl⟩
end Go.Proofs.YtlliliddljkbfaaGreatDoor
namespace Go.Proofs.YtlliliddljkbfaaGreatDoor
set_option maxHeartbeats 64000000
set_option maxRecDepth 100000
open Go
def acN(P:Program)(c:Code)(Q:Exit->Act->World->Prop):Exit->Act->World->Prop
 |.goto l,a,w=>∃rest,findLabel c l=some rest/\rest.wp P (Exit.noGoto Q) a w
 |e,a,w=>Q e a w
structure Fwd(P:Program)(c:Code)(Q Q':Exit->Act->World->Prop):Prop where
 go:∀l rest a w,findLabel c l=some rest->rest.wp P (Exit.noGoto Q) a w->Q' (.goto l) a w
 norm:∀a w,Q .normal a w->Q' .normal a w
 ret:∀a w,Q .ret a w->Q' .ret a w
 any:∀e a w,Exit.noGoto Q e a w->Q' e a w
theorem jK{P:Program}{c:Code}{Q:Exit->Act->World->Prop}{a:Act}{w:World}
  (h:∀Q':Exit->Act->World->Prop,Fwd P c Q Q'->c.wp P Q' a w):(Code.scope c).wp P Q a w:=by
 have h':=h (acN P c Q) ⟨fun l rest a w hf hr=>⟨rest,hf,hr⟩,fun a w hq=>hq,fun a w hq=>hq,fun e a w hq=>by cases e<;>first|exact hq|exact hq.elim⟩;intro b k cs;obtain⟨e,a₁,w₁,hq,harr⟩:=h' b (.inScope c::k) cs;cases e with
 |normal=>exact⟨.normal,a₁,w₁,hq,.head step_scope (Steps.trans harr (.one step_inScope))⟩
 |exit id=>exact⟨.exit id,a₁,w₁,hq,fun k' hk=>.head step_scope (harr k' (by simp[exitTo,hk]))⟩
 |goto l=>
  obtain⟨rest,hf,hr⟩:=hq;have hg:gotoIn l (.inScope c::k)=some (.code rest :: .inScope c::k):=by simp[gotoIn,hf]
  obtain⟨e₂,a₂,w₂,hq₂,harr₂⟩:=hr b (.inScope c::k) cs;have hs:=Steps.head (P:=P) step_scope (harr _ hg);cases e₂ with
  |normal=>exact⟨.normal,a₂,w₂,hq₂,Steps.trans hs (Steps.trans harr₂ (.one step_inScope))⟩
  |exit id=>exact⟨.exit id,a₂,w₂,hq₂,fun k' hk=>Steps.trans hs (harr₂ k' (by simp[exitTo,hk]))⟩
  |goto l'=>exact hq₂.elim
  |ret=>exact⟨_,a₂,w₂,hq₂,.of_steps hs harr₂⟩
  |panic ch=>exact⟨_,a₂,w₂,hq₂,.of_steps hs harr₂⟩
  |outgrown=>exact⟨_,a₂,w₂,hq₂,.of_steps hs harr₂⟩
 |ret=>exact⟨_,a₁,w₁,hq,.of_steps (.one step_scope) harr⟩
 |panic ch=>exact⟨_,a₁,w₁,hq,.of_steps (.one step_scope) harr⟩
 |outgrown=>exact⟨_,a₁,w₁,hq,.of_steps (.one step_scope) harr⟩
end Go.Proofs.YtlliliddljkbfaaGreatDoor
namespace Go.Proofs.YtlliliddljkbfaaGreatDoor
set_option maxHeartbeats 64000000
set_option maxRecDepth 100000
open Go.Proofs.Tryz (prog)
open Go.RowKit Sp
def aG(b:Nat)(s:ByteArray)(k:Nat)(w w':World):Prop:=Sc w' b s k/\Turn b w w'
theorem aG.drewN{b k:Nat}{s:ByteArray}{w w':World}(h:aG b s k w w')(n:Nat):aG b s k w (w'.drewN n):=⟨h.1.drewN n,h.2.drewN n⟩
theorem aG.set{b k:Nat}{s:ByteArray}{w w':World}(h:aG b s k w w')(j:Nat)(hj:j<=s.size):aG b s j w (w'.setCell ⟨b,1,none⟩ (.int .i64 (j:Int))):=⟨h.1.set j hj,h.2.setCell 1 _⟩
theorem aG.alloc{b k:Nat}{s:ByteArray}{w w':World}(h:aG b s k w w')(o:Obj):aG b s k w (w'.alloc o):=⟨h.1.alloc o,h.2.alloc o⟩
theorem aG.refl{b k:Nat}{s:ByteArray}{w:World}(h:Sc w b s k):aG b s k w w:=⟨h,Turn.refl _ _⟩
theorem aG.nh{b k:Nat}{s:ByteArray}{w:World}(h:Sc w b s k):Hid (aG b s k w (w.alloc (.cells #[.int .i64 0,.string ⟨#[]⟩,.string ⟨#[]⟩] 68 (0,0)))):=(aG.refl h).alloc _
theorem aG.trans{b j k:Nat}{s:ByteArray}{w w1 w2:World}(h:aG b s j w w1)(h':aG b s k w1 w2):aG b s k w w2:=⟨h'.1,h.2.trans h'.2⟩
theorem Sc.jw{w:World}{b i:Nat}{s:ByteArray}(h:Sc w b s i)(v:Int)(j:Nat)(hv:v=j)(hj:j<=s.size):Sc (w.setCell ⟨b,1,none⟩ (.int .i64 v)) b s j:=by rw[hv];exact h.set j hj
theorem aG.jw{b k:Nat}{s:ByteArray}{w w':World}(h:aG b s k w w')(v:Int)(j:Nat)(hv:v=j)(hj:j<=s.size):aG b s j w (w'.setCell ⟨b,1,none⟩ (.int .i64 v)):=by rw[hv];exact h.set j hj
theorem OT(i:Nat):(i:Int)+1=((i+1:Nat):Int):=oo
theorem x9(s:ByteArray)(b i:Nat)(w:World)(h:Sc w b s i)(hi:i<s.size):
  Calls prog 171 #[.pointer (some ⟨b,0,none⟩)] w fun e w'=>e=.returned (.string (one s i))/\aG b s (i+1) w w':=by
 have HS:Hid (Sc w b s i):=h;have h0:=h.c0;have h1:=h.c1;have hf:=h.f1;have hl:=h.lt;have hs:=h.len;clear h;go_in;go_wp2
 go_quiet (fail)
 go_wp2
 go_ret;refine⟨rfl,?_⟩;rw[OT];exact((aG.refl HS.o).set (i+1) oo).drewN _
theorem lH(s:ByteArray)(b i:Nat)(w:World)(h:Sc w b s i):
  Calls prog 162 #[.pointer (some ⟨b,0,none⟩)] w fun e w'=>e=.returned (.tuple #[])/\aG b s (Sp.blk s i) w w':=by
 have HS:Hid (Sc w b s i):=h;clear h;go_in;go_wp2_with fail;refine jK (fun Q' hF=>?_);go_wp2_with fail;go_loopg[] s.size (fun g wr=>∃k:Nat,s.size<=k+g/\Aside (uq s g k=Sp.blk s i/\aG b s k w wr));case atStart=>exact⟨i,oo,rfl,aG.refl HS.o⟩
 case round=>
  obtain⟨k,hk,hA⟩:=hrel;have H1:Hid (uq s gk k=Sp.blk s i):=hA.o.1;have H2:Hid (aG b s k w wr):=hA.o.2;clear hA;have h0:=H2.o.1.c0;have h1:=H2.o.1.c1;have hf:=H2.o.1.f1;have hl:=H2.o.1.lt;have hs:=H2.o.1.len;cases hbl:bJ (pk s k)
  .have HV:Hid (Sp.blk s i=k):=by
    show Sp.blk s i=k;rw[<-H1.o];cases gk with
    |zero=>rfl
    |succ f=>unfold uq;rw[if_neg (by simp[hbl])]
   go_wp2_with fail;refine(ak s b k _ k _ H2.o.1 ⟨oo,oo,oo⟩).mono ?_;rintro e w1 ⟨rfl,n1,rfl⟩;go_wp2_with fail;refine(bF _ _).mono ?_;rintro e w1 ⟨rfl,rfl⟩;go_wp2_with fail;go_step3
   refine hF.go 0 _ _ _ rfl ?_;go_wp2
   simp only[Exit.noGoto];go_end0
   refine⟨rfl,?_⟩;rw[HV.o];exact H2.o.drewN _
  .have hlt:k<s.size:=dX (lY hbl);obtain⟨f,rfl⟩:∃f,gk=f+1:=⟨gk-1,oo⟩;have HV:Hid (uq s f (k+1)=Sp.blk s i):=by
    have:=H1.o;unfold uq at this;rw[if_pos hbl]at this;exact this
   go_wp2_with fail;refine(ak s b k _ k _ H2.o.1 ⟨oo,oo,oo⟩).mono ?_;rintro e w1 ⟨rfl,n1,rfl⟩;go_wp2_with fail;refine(bF _ _).mono ?_;rintro e w1 ⟨rfl,rfl⟩;go_wp2_with fail;go_roundg f;case measure=>omega
   case rel=>rw[OT];exact⟨k+1,oo,HV.o,(H2.o.drewN _).set (k+1) oo⟩
theorem Et(s:ByteArray)(b i:Nat)(w:World)(h:Sc w b s i)(hlt:i<s.size):
  Calls prog 278 #[.pointer (some ⟨b,0,none⟩)] w fun e w'=>e=.returned (.string (one s i))/\aG b s (i+1) w w':=by
 have W:Hid (aG b s i w w):=aG.refl h;clear h;have hne:(pk s i == -1)=false:=by have:=tV hlt;simp;omega
 go_in;go_wp2_with fail;refine dK (ak s b (i) _ (i) _ (W.o.1) ⟨oo,oo,oo⟩) fun nq=>?_;go_wp2_with fail;refine pmb (x9 s b i _ (W.o.1.drewN _) hlt) fun w1 aj=>?_;have W1:Hid (aG b s (i+1) w w1):=(W.o.drewN _).trans aj;clear aj;go_wp2_with fail;go_ret;exact⟨rfl,W1.o⟩
theorem Dv(s:ByteArray)(b i:Nat)(w:World)(h:Sc w b s i)(hlt:s.size<=i):
  Calls prog 278 #[.pointer (some ⟨b,0,none⟩)] w fun e w'=>e=.returned (.string qB)/\aG b s i w w':=by
 have W:Hid (aG b s i w w):=aG.refl h;clear h;have hne:(pk s i == -1)=true:=by rw[mO hlt];rfl
 go_in;go_wp2_with fail;refine dK (ak s b (i) _ (i) _ (W.o.1) ⟨oo,oo,oo⟩) fun nq=>?_;go_wp2_with fail;go_ret;exact⟨rfl,W.o.drewN _⟩
theorem pY(n m:Nat)(hn:n<=255)(W:World)(hW:W.heap.size=m):
  (convert 182 9 (.slice (some ⟨m,0,none⟩) 1 1)).run prog (W.alloc (.cells #[.int .u8 (n:Int)] 5))=.ok (.string (xA n)) (W.alloc (.cells #[.int .u8 (n:Int)] 5)):=by
 subst hW;refine run_convert_bytes_back (P:=prog) _ 182 9 5 _ 1 [UInt8.ofNat n] Tryz.underlying182 Tryz.underlying5 Tryz.underlying9 ?_;intro j hj;obtain rfl:j=0:=by simpa using hj
 have e:((⟨W.heap.size,0,none⟩:Addr).add 0)=⟨W.heap.size,0,none⟩:=rfl;rw[e,World.cell?_alloc_mark];simp;omega
theorem zJ(s:ByteArray)(b i:Nat)(w:World)(h:Sc w b s i)(hi:i<s.size):
  Calls prog 231 #[.pointer (some ⟨b,0,none⟩)] w fun e w'=>e=.returned (.string (esc s i).1)/\aG b s (esc s i).2 w w':=by
 have W:Hid (aG b s i w w):=aG.refl h;clear h;have c00:=W.o.1.c0;have c10:=W.o.1.c1;have GY:=W.o.1.f1;have GZ:=W.o.1.lt;have cs0:=W.o.1.len;have G5:=W.o.1.le;go_in;go_wp2_with fail;refine jK (fun Q' hF=>?_);go_wp2_with fail;go_loopg[3,4] 6 (fun g n3 n4 wr=>∃d n:Nat,d+g=6/\n<16 ^ d/\n3=.int .i64 (n:Int)/\n4=.int .i64 (d:Int)/\Aside (nV s g (i+1+d) n=nV s 6 (i+1) 0/\aG b s (i+1+d) w wr));case atStart=>exact⟨0,0,oo,by decide,rfl,rfl,rfl,W.o.jw _ (i+1) oo oo⟩
 case round=>
  obtain⟨d,n,hd,hn,rfl,rfl,hA⟩:=hrel;have H1:Hid (nV s gk (i+1+d) n=nV s 6 (i+1) 0):=hA.o.1;have H2':Hid (aG b s (i+1+d) w wr):=hA.o.2;clear hA;obtain⟨k,HK⟩:∃k,Hid (k=i+1+d):=⟨_,rfl⟩;have H2:Hid (aG b s k w wr):=by show aG b s k w wr;rw[HK.o];exact H2'.o
  clear H2';have c02:=H2.o.1.c0;have c12:=H2.o.1.c1;have cf2:=H2.o.1.f1;have cl2:=H2.o.1.lt;have cs2:=H2.o.1.len;have ce2:=H2.o.1.le;have hkd:i+1+d<=k:=by have:=HK.o;omega
  have aff:k<=i+1+d:=by have:=HK.o;omega
  have hnb:n<16777216:=by
   have h1:16 ^ d<=16 ^ 6:=Nat.pow_le_pow_right oo oo;have h2:(16:Nat) ^ 6=16777216:=by decide
   omega
  have HP:Hid (n<16 ^ d):=hn;clear hn;by_cases h6:d<6
  .have hlo:=QL s k;have hhi:=D7 s k;have hxl:=U2 (pk s k);have hxh:=OB (pk s k);obtain⟨f,rfl⟩:∃f,gk=f+1:=⟨gk-1,oo⟩;by_cases hx:0<=nD (pk s k)
   .have hlt:k<s.size:=dX (OA hx);have HV:Hid (nV s f (i+1+(d+1)) (n*16+(nD (pk s k)).toNat)=nV s 6 (i+1) 0):=by
     show _=_;rw[<-H1.o];conv=>rhs;unfold nV
     have e:=HK.o;rw[<-e,if_pos hx,e];rfl
    have HN:Hid (n*16+(nD (pk s k)).toNat<16 ^ (d+1)):=by show _<_;rw[Nat.pow_succ];have:=HP.o;omega
    go_wp2_with fail;refine dK (ak s b (k) _ (k) _ (H2.o.1) ⟨oo,oo,oo⟩) fun nq=>?_;go_wp2_with fail;refine aN (xW _ _ oo oo) ?_;go_wp2_with fail;go_roundg f;case measure=>omega
    case rel=>exact⟨d+1,n*16+(nD (pk s k)).toNat,oo,HN.o,by congr 1;omega,by congr 1,HV.o,(H2.o.drewN _).jw _ _ oo oo⟩
   .have hx':nD (pk s k)<0:=oo;have HR:Hid (nV s 6 (i+1) 0=(n,k)):=by
     show _=_;rw[<-H1.o,<-HK.o];unfold nV;rw[if_neg hx]
    by_cases hd0:d=0
    .have VR:((d:Int)==0)=true:=by simp[hd0]
     have HD:Hid (d=0):=hd0;clear hd0;have hde:d<=0:=by have:=HD.o;omega
     go_wp2_with fail;refine dK (ak s b (k) _ (k) _ (H2.o.1) ⟨oo,oo,oo⟩) fun nq=>?_;go_wp2_with fail;refine aN (xW _ _ oo oo) ?_;go_wp2_with fail;go_step3
     refine hF.go 0 _ _ _ rfl ?_;clear hF;by_cases hks:k<s.size
     .have HV:Hid (esc s i=(one s k,k+1)):=by
       show esc s i=_;have e:k=i+1:=oo;unfold esc;dsimp only;rw[HR.o,if_pos (by show k=i+1;omega),<-e,if_pos hks,show i+2=k+1 by omega]
      go_wp2_with fail;refine pmb (Et s b k _ (H2.o.1.drewN _) hks) fun w1 aj=>?_;have W1:Hid (aG b s (k+1) w w1):=(H2.o.drewN _).trans aj;clear aj;go_wp2_with fail;try rw[Exit.noGoto_ret]
      go_ret;rw[HV.o];exact⟨rfl,W1.o⟩
     .have HV:Hid (esc s i=(qB,k)):=by
       show esc s i=_;have e:k=i+1:=oo;unfold esc;dsimp only;rw[HR.o,if_pos (by show k=i+1;omega),<-e,if_neg hks]
      go_wp2_with fail;refine pmb (Dv s b k _ (H2.o.1.drewN _) oo) fun w1 aj=>?_;have W1:Hid (aG b s (k) w w1):=(H2.o.drewN _).trans aj;clear aj;go_wp2_with fail;try rw[Exit.noGoto_ret]
      go_ret;rw[HV.o];exact⟨rfl,W1.o⟩
    .have VR:((d:Int)==0)=false:=by simp[hd0]
     have hdp:0<d:=oo;clear hd0;go_wp2_with fail;refine dK (ak s b (k) _ (k) _ (H2.o.1) ⟨oo,oo,oo⟩) fun nq=>?_;go_wp2_with fail;refine aN (xW _ _ oo oo) ?_;go_wp2_with fail;go_step3
     refine hF.go 0 _ _ _ rfl ?_;clear hF;cases hbl:bJ (pk s k)
     .by_cases hn1:n<1
      .have HV:Hid (esc s i=(qB,k)):=by
        show esc s i=_;unfold esc;dsimp only;rw[HR.o];dsimp only;rw[if_neg oo,if_neg oo,if_neg (by simp[hbl])]
       go_wp2_with fail;refine dK (ak s b (k) _ (k) _ (H2.o.1.drewN _) ⟨oo,oo,oo⟩) fun nq=>?_;go_wp2_with fail;refine aN (bF _ _) ?_;go_wp2_with fail;try rw[Exit.noGoto_ret]
       go_ret;rw[HV.o];exact⟨rfl,(H2.o.drewN _)⟩
      .by_cases hn2:255<n
       .have HV:Hid (esc s i=(qB,k)):=by
         show esc s i=_;unfold esc;dsimp only;rw[HR.o];dsimp only;rw[if_neg oo,if_neg oo,if_neg (by simp[hbl])]
        go_wp2_with fail;refine dK (ak s b (k) _ (k) _ (H2.o.1.drewN _) ⟨oo,oo,oo⟩) fun nq=>?_;go_wp2_with fail;refine aN (bF _ _) ?_;go_wp2_with fail;try rw[Exit.noGoto_ret]
        go_ret;rw[HV.o];exact⟨rfl,(H2.o.drewN _)⟩
       .have hcv:=pY n wr.heap.size oo;have hcv0:=fun q=>pY n wr.heap.size oo (wr.drewN q) rfl;have HV:Hid (esc s i=(xA n,k)):=by
         show esc s i=_;unfold esc;dsimp only;rw[HR.o];dsimp only;rw[if_neg oo,if_pos ⟨oo,oo⟩,if_neg (by simp[hbl])]
        go_wp2_with fail;refine dK (ak s b (k) _ (k) _ (H2.o.1.drewN _) ⟨oo,oo,oo⟩) fun nq=>?_;go_wp2_with fail;refine aN (bF _ _) ?_;go_wp2_with fail;try rw[Exit.noGoto_ret]
        go_ret;rw[HV.o];exact⟨rfl,(H2.o.drewN _).alloc _⟩
     .by_cases hn1:n<1
      .have hlt:k<s.size:=dX (lY hbl);have HV:Hid (esc s i=(qB,k+1)):=by
        show esc s i=_;unfold esc;dsimp only;rw[HR.o];dsimp only;rw[if_neg oo,if_neg oo,if_pos hbl]
       go_wp2_with fail;refine dK (ak s b (k) _ (k) _ (H2.o.1.drewN _) ⟨oo,oo,oo⟩) fun nq=>?_;go_wp2_with fail;refine aN (bF _ _) ?_;go_wp2_with fail;try rw[Exit.noGoto_ret]
       go_ret;rw[HV.o];exact⟨rfl,((H2.o.drewN _).jw _ (k+1) oo oo)⟩
      .by_cases hn2:255<n
       .have hlt:k<s.size:=dX (lY hbl);have HV:Hid (esc s i=(qB,k+1)):=by
         show esc s i=_;unfold esc;dsimp only;rw[HR.o];dsimp only;rw[if_neg oo,if_neg oo,if_pos hbl]
        go_wp2_with fail;refine dK (ak s b (k) _ (k) _ (H2.o.1.drewN _) ⟨oo,oo,oo⟩) fun nq=>?_;go_wp2_with fail;refine aN (bF _ _) ?_;go_wp2_with fail;try rw[Exit.noGoto_ret]
        go_ret;rw[HV.o];exact⟨rfl,((H2.o.drewN _).jw _ (k+1) oo oo)⟩
       .have hlt:k<s.size:=dX (lY hbl);have hcv:=pY n wr.heap.size oo;have hcv0:=fun q=>pY n wr.heap.size oo (wr.drewN q) rfl;have HV:Hid (esc s i=(xA n,k+1)):=by
         show esc s i=_;unfold esc;dsimp only;rw[HR.o];dsimp only;rw[if_neg oo,if_pos ⟨oo,oo⟩,if_pos hbl]
        go_wp2_with fail;refine dK (ak s b (k) _ (k) _ (H2.o.1.drewN _) ⟨oo,oo,oo⟩) fun nq=>?_;go_wp2_with fail;refine aN (bF _ _) ?_;go_wp2_with fail;try rw[Exit.noGoto_ret]
        go_ret;rw[HV.o];exact⟨rfl,((H2.o.drewN _).jw _ (k+1) oo oo).alloc _⟩
  .have VR:((d:Int)==0)=false:=by simp;omega
   have HR:Hid (nV s 6 (i+1) 0=(n,k)):=by show _=_;obtain rfl:gk=0:=oo;rw[<-H1.o,<-HK.o];rfl
   go_wp2_with fail;go_step3
   cases hbl:bJ (pk s k)
   .by_cases hn1:n<1
    .have HV:Hid (esc s i=(qB,k)):=by
      show esc s i=_;unfold esc;dsimp only;rw[HR.o];dsimp only;rw[if_neg oo,if_neg oo,if_neg (by simp[hbl])]
     go_wp2_with fail;refine dK (ak s b (k) _ (k) _ (H2.o.1) ⟨oo,oo,oo⟩) fun nq=>?_;go_wp2_with fail;refine aN (bF _ _) ?_;go_wp2_with fail;refine hF.ret _ _ ?_;go_ret;rw[HV.o];exact⟨rfl,(H2.o.drewN _)⟩
    .by_cases hn2:255<n
     .have HV:Hid (esc s i=(qB,k)):=by
       show esc s i=_;unfold esc;dsimp only;rw[HR.o];dsimp only;rw[if_neg oo,if_neg oo,if_neg (by simp[hbl])]
      go_wp2_with fail;refine dK (ak s b (k) _ (k) _ (H2.o.1) ⟨oo,oo,oo⟩) fun nq=>?_;go_wp2_with fail;refine aN (bF _ _) ?_;go_wp2_with fail;refine hF.ret _ _ ?_;go_ret;rw[HV.o];exact⟨rfl,(H2.o.drewN _)⟩
     .have hcv:=pY n wr.heap.size oo;have hcv0:=fun q=>pY n wr.heap.size oo (wr.drewN q) rfl;have HV:Hid (esc s i=(xA n,k)):=by
       show esc s i=_;unfold esc;dsimp only;rw[HR.o];dsimp only;rw[if_neg oo,if_pos ⟨oo,oo⟩,if_neg (by simp[hbl])]
      go_wp2_with fail;refine dK (ak s b (k) _ (k) _ (H2.o.1) ⟨oo,oo,oo⟩) fun nq=>?_;go_wp2_with fail;refine aN (bF _ _) ?_;go_wp2_with fail;refine hF.ret _ _ ?_;go_ret;rw[HV.o];exact⟨rfl,(H2.o.drewN _).alloc _⟩
   .by_cases hn1:n<1
    .have hlt:k<s.size:=dX (lY hbl);have HV:Hid (esc s i=(qB,k+1)):=by
      show esc s i=_;unfold esc;dsimp only;rw[HR.o];dsimp only;rw[if_neg oo,if_neg oo,if_pos hbl]
     go_wp2_with fail;refine dK (ak s b (k) _ (k) _ (H2.o.1) ⟨oo,oo,oo⟩) fun nq=>?_;go_wp2_with fail;refine aN (bF _ _) ?_;go_wp2_with fail;refine hF.ret _ _ ?_;go_ret;rw[HV.o];exact⟨rfl,((H2.o.drewN _).jw _ (k+1) oo oo)⟩
    .by_cases hn2:255<n
     .have hlt:k<s.size:=dX (lY hbl);have HV:Hid (esc s i=(qB,k+1)):=by
       show esc s i=_;unfold esc;dsimp only;rw[HR.o];dsimp only;rw[if_neg oo,if_neg oo,if_pos hbl]
      go_wp2_with fail;refine dK (ak s b (k) _ (k) _ (H2.o.1) ⟨oo,oo,oo⟩) fun nq=>?_;go_wp2_with fail;refine aN (bF _ _) ?_;go_wp2_with fail;refine hF.ret _ _ ?_;go_ret;rw[HV.o];exact⟨rfl,((H2.o.drewN _).jw _ (k+1) oo oo)⟩
     .have hlt:k<s.size:=dX (lY hbl);have hcv:=pY n wr.heap.size oo;have hcv0:=fun q=>pY n wr.heap.size oo (wr.drewN q) rfl;have HV:Hid (esc s i=(xA n,k+1)):=by
       show esc s i=_;unfold esc;dsimp only;rw[HR.o];dsimp only;rw[if_neg oo,if_pos ⟨oo,oo⟩,if_pos hbl]
      go_wp2_with fail;refine dK (ak s b (k) _ (k) _ (H2.o.1) ⟨oo,oo,oo⟩) fun nq=>?_;go_wp2_with fail;refine aN (bF _ _) ?_;go_wp2_with fail;refine hF.ret _ _ ?_;go_ret;rw[HV.o];exact⟨rfl,((H2.o.drewN _).jw _ (k+1) oo oo).alloc _⟩
theorem Rn{a b:ByteArray}{x y:Int}(h1:a=b)(h2:x=y):Ending.returned (.tuple #[.string a,.int .i64 x])=.returned (.tuple #[.string b,.int .i64 y]):=by rw[h1,h2]
theorem oV(s:ByteArray)(k:Nat)(h:k<s.size)(w:World):(Instr.slice 9 (.string s) (some (.int .i64 (k:Int))) (some (.int .i64 ((k:Int)+1))) none).run prog w=.ok (.string (one s k)) w:=by rw[run_slice_string_if w 9 s .i64 .i64 _ _ Tryz.underlying9,if_pos ⟨oo,oo⟩,if_pos ⟨oo,oo⟩];congr 3
theorem JG(s:ByteArray)(k:Nat)(w:World)(hs:s.size<=600)(hk:s.size=k+1):
  Calls prog 198 #[.string s,.int .i64 (k:Int)] w fun e w'=>e=.returned (.tuple #[.string qB,.int .i64 ((k+1:Nat):Int)])/\Below w.heap.size w w':=by
 have h1:(s.size:Int)<=(k:Int)+1:=oo;have h2:(k:Int)+1<=600:=oo;clear hk;go_in;go_wp2_with fail;go_ret2
 exact⟨Rn rfl oo,Below.refl _ _⟩
theorem zK(s:ByteArray)(i:Int)(k:Nat)(w:World)(hi:i=k)(hs:s.size<=600)(hk:k<s.size):
  Calls prog 198 #[.string s,.int .i64 i] w fun e w'=>e=.returned (.tuple #[.string (esc s k).1,.int .i64 ((esc s k).2:Int)])/\Below w.heap.size w w':=by
 subst hi;by_cases hend:s.size=k+1
 .have e:esc s k=(qB,k+1):=by
   have hx:nV s 6 (k+1) 0=(0,k+1):=by unfold nV;rw[mO oo,if_neg (by decide)]
   unfold esc;dsimp only;rw[hx,if_pos rfl,if_neg oo]
  rw[e];exact JG s k w hs hend
 .have hk1:k+1<s.size:=oo;have h1:(k:Int)+1<(s.size:Int):=oo;clear hend;go_in;go_wp2_with fail;go_loopg[6,7] 6 (fun g n6 n7 wr=>∃d n:Nat,d+g=6/\n<16 ^ d/\k+1+d<=s.size/\n6=.int .i64 (n:Int)/\n7=.int .i64 (d:Int)/\Aside (nV s g (k+1+d) n=nV s 6 (k+1) 0/\w=wr));case atStart=>exact⟨0,0,oo,by decide,oo,rfl,rfl,rfl,rfl⟩
  case round=>
   obtain⟨d,n,hd,hn,hds,rfl,rfl,hA⟩:=hrel;have H1:Hid (nV s gk (k+1+d) n=nV s 6 (k+1) 0):=hA.o.1;obtain rfl:=hA.o.2;clear hA;obtain⟨j,HJ⟩:∃j,Hid (j=k+1+d):=⟨_,rfl⟩;have hj1:k+1+d<=j:=by have:=HJ.o;omega
   have hj2:j<=k+1+d:=by have:=HJ.o;omega
   have hnb:n<16777216:=by
    have h1:16 ^ d<=16 ^ 6:=Nat.pow_le_pow_right oo oo;have h2:(16:Nat) ^ 6=16777216:=by decide
    omega
   have HP:Hid (n<16 ^ d):=hn;clear hn;have hxl:=U2 (a0 s j);have hxh:=OB (a0 s j);have hal:=acL s j;have hah:=acM s j;by_cases h6:d<6
   .have h6':(d:Int)<6:=oo;obtain⟨f,rfl⟩:∃f,gk=f+1:=⟨gk-1,oo⟩;by_cases hx:0<=nD (a0 s j)
    .have hx2:0<=nD (pk s j):=by rw[OQ]at hx;exact hx
     have hlt:j<s.size:=dX (OA hx2);have HE:Hid (nD (a0 s j)=nD (pk s j)):=OQ s j;have hix:∀w:World,(Instr.index 9 (.string s) (.int .i64 ((k:Int)+1+(d:Int)))).run prog w=.ok (.int .u8 (pk s j)) w:=fun w=>by rw[show((k:Int)+1+(d:Int))=((j:Nat):Int) from by omega];exact aV s j hlt w
     have hpl:=tV hlt;have hph:=D7 s j;have hx3:=OB (pk s j);have HV:Hid (nV s f (k+1+(d+1)) (n*16+(nD (pk s j)).toNat)=nV s 6 (k+1) 0):=by
      show _=_;rw[<-H1.o];conv=>rhs;unfold nV
      have e:=HJ.o;rw[<-e,if_pos hx2,e];rfl
     have HN:Hid (n*16+(nD (pk s j)).toNat<16 ^ (d+1)):=by show _<_;rw[Nat.pow_succ];have:=HP.o;omega
     go_wp2_with fail;refine aN (eY s _ (j) _ oo oo) ?_;go_wp2_with fail;refine aN (zo _ _ oo oo) ?_;go_wp2_with fail;refine aN (zo _ _ oo oo) ?_;go_wp2_with fail;go_roundg f;case measure=>omega
     case rel=>exact⟨d+1,n*16+(nD (pk s j)).toNat,oo,HN.o,oo,by congr 1;omega,by congr 1,HV.o,rfl⟩
    .have hx':nD (a0 s j)<0:=oo;have HR:Hid (nV s 6 (k+1) 0=(n,j)):=by
      show _=_;rw[OQ]at hx;rw[<-H1.o,<-HJ.o];unfold nV;rw[if_neg hx]
     by_cases hd0:d=0
     .have VR:((d:Int)==0)=true:=by simp[hd0]
      have HD:Hid (d=0):=hd0;clear hd0;have hde:d<=0:=by have:=HD.o;omega
      have hsl:=oV s (k+1) hk1;have afg:∀w:World,(Instr.slice 9 (.string s) (some (.int .i64 ((k:Int)+1))) (some (.int .i64 ((k:Int)+1+1))) none).run prog w=.ok (.string (one s (k+1))) w:=hsl;clear hsl;have HV:Hid (esc s k=(one s (k+1),k+2)):=by show esc s k=_;unfold esc;dsimp only;rw[HR.o,if_pos (by show j=k+1;omega),if_pos hk1]
      go_wp2_with fail;refine aN (eY s _ (j) _ oo oo) ?_;go_wp2_with fail;refine aN (zo _ _ oo oo) ?_;go_wp2_with fail;go_ret2
      rw[HV.o];exact⟨Rn rfl oo,Below.refl _ _⟩
     .have VR:((d:Int)==0)=false:=by simp[hd0]
      have hdp:0<d:=oo;clear hd0;cases hbl:bJ (a0 s j)
      .by_cases hn1:n<1
       .have HV:Hid (esc s k=(qB,j)):=by
         show esc s k=_;unfold esc;dsimp only;rw[HR.o];dsimp only;rw[if_neg oo,if_neg oo,if_neg (by rw[<-kM,hbl];simp)]
        go_wp2_with fail;refine aN (eY s _ (j) _ oo oo) ?_;go_wp2_with fail;refine aN (zo _ _ oo oo) ?_;go_wp2_with fail;refine aN (eY s _ (j) _ oo oo) ?_;go_wp2_with fail;refine aN (aT _ _) ?_;go_wp2_with fail;go_ret2
        rw[HV.o];exact⟨Rn rfl oo,Below.refl _ _⟩
       .by_cases hn2:255<n
        .have HV:Hid (esc s k=(qB,j)):=by
          show esc s k=_;unfold esc;dsimp only;rw[HR.o];dsimp only;rw[if_neg oo,if_neg oo,if_neg (by rw[<-kM,hbl];simp)]
         go_wp2_with fail;refine aN (eY s _ (j) _ oo oo) ?_;go_wp2_with fail;refine aN (zo _ _ oo oo) ?_;go_wp2_with fail;refine aN (eY s _ (j) _ oo oo) ?_;go_wp2_with fail;refine aN (aT _ _) ?_;go_wp2_with fail;go_ret2
         rw[HV.o];exact⟨Rn rfl oo,Below.refl _ _⟩
        .have hcv:=fun(w:World)=>pY n w.heap.size oo w rfl;have HV:Hid (esc s k=(xA n,j)):=by
          show esc s k=_;unfold esc;dsimp only;rw[HR.o];dsimp only;rw[if_neg oo,if_pos ⟨oo,oo⟩,if_neg (by rw[<-kM,hbl];simp)]
         go_wp2_with fail;refine aN (eY s _ (j) _ oo oo) ?_;go_wp2_with fail;refine aN (zo _ _ oo oo) ?_;go_wp2_with fail;refine aN (eY s _ (j) _ oo oo) ?_;go_wp2_with fail;refine aN (aT _ _) ?_;go_wp2_with fail;go_ret2
         rw[HV.o];exact⟨Rn rfl oo,(Below.refl _ _).alloc nl _⟩
      .by_cases hn1:n<1
       .have HV:Hid (esc s k=(qB,j+1)):=by
         show esc s k=_;unfold esc;dsimp only;rw[HR.o];dsimp only;rw[if_neg oo,if_neg oo,if_pos (by rw[<-kM];exact hbl)]
        go_wp2_with fail;refine aN (eY s _ (j) _ oo oo) ?_;go_wp2_with fail;refine aN (zo _ _ oo oo) ?_;go_wp2_with fail;refine aN (eY s _ (j) _ oo oo) ?_;go_wp2_with fail;refine aN (aT _ _) ?_;go_wp2_with fail;go_ret2
        rw[HV.o];exact⟨Rn rfl oo,Below.refl _ _⟩
       .by_cases hn2:255<n
        .have HV:Hid (esc s k=(qB,j+1)):=by
          show esc s k=_;unfold esc;dsimp only;rw[HR.o];dsimp only;rw[if_neg oo,if_neg oo,if_pos (by rw[<-kM];exact hbl)]
         go_wp2_with fail;refine aN (eY s _ (j) _ oo oo) ?_;go_wp2_with fail;refine aN (zo _ _ oo oo) ?_;go_wp2_with fail;refine aN (eY s _ (j) _ oo oo) ?_;go_wp2_with fail;refine aN (aT _ _) ?_;go_wp2_with fail;go_ret2
         rw[HV.o];exact⟨Rn rfl oo,Below.refl _ _⟩
        .have hcv:=fun(w:World)=>pY n w.heap.size oo w rfl;have HV:Hid (esc s k=(xA n,j+1)):=by
          show esc s k=_;unfold esc;dsimp only;rw[HR.o];dsimp only;rw[if_neg oo,if_pos ⟨oo,oo⟩,if_pos (by rw[<-kM];exact hbl)]
         go_wp2_with fail;refine aN (eY s _ (j) _ oo oo) ?_;go_wp2_with fail;refine aN (zo _ _ oo oo) ?_;go_wp2_with fail;refine aN (eY s _ (j) _ oo oo) ?_;go_wp2_with fail;refine aN (aT _ _) ?_;go_wp2_with fail;go_ret2
         rw[HV.o];exact⟨Rn rfl oo,(Below.refl _ _).alloc nl _⟩
   .have h6':(6:Int)<=(d:Int):=oo;have VR:((d:Int)==0)=false:=by simp;omega
    have hdp:0<d:=oo;have HR:Hid (nV s 6 (k+1) 0=(n,j)):=by show _=_;obtain rfl:gk=0:=oo;rw[<-H1.o,<-HJ.o];rfl
    cases hbl:bJ (a0 s j)
    .by_cases hn1:n<1
     .have HV:Hid (esc s k=(qB,j)):=by
       show esc s k=_;unfold esc;dsimp only;rw[HR.o];dsimp only;rw[if_neg oo,if_neg oo,if_neg (by rw[<-kM,hbl];simp)]
      go_wp2_with fail;refine aN (eY s _ (j) _ oo oo) ?_;go_wp2_with fail;refine aN (aT _ _) ?_;go_wp2_with fail;go_ret2
      rw[HV.o];exact⟨Rn rfl oo,Below.refl _ _⟩
     .by_cases hn2:255<n
      .have HV:Hid (esc s k=(qB,j)):=by
        show esc s k=_;unfold esc;dsimp only;rw[HR.o];dsimp only;rw[if_neg oo,if_neg oo,if_neg (by rw[<-kM,hbl];simp)]
       go_wp2_with fail;refine aN (eY s _ (j) _ oo oo) ?_;go_wp2_with fail;refine aN (aT _ _) ?_;go_wp2_with fail;go_ret2
       rw[HV.o];exact⟨Rn rfl oo,Below.refl _ _⟩
      .have hcv:=fun(w:World)=>pY n w.heap.size oo w rfl;have HV:Hid (esc s k=(xA n,j)):=by
        show esc s k=_;unfold esc;dsimp only;rw[HR.o];dsimp only;rw[if_neg oo,if_pos ⟨oo,oo⟩,if_neg (by rw[<-kM,hbl];simp)]
       go_wp2_with fail;refine aN (eY s _ (j) _ oo oo) ?_;go_wp2_with fail;refine aN (aT _ _) ?_;go_wp2_with fail;go_ret2
       rw[HV.o];exact⟨Rn rfl oo,(Below.refl _ _).alloc nl _⟩
    .by_cases hn1:n<1
     .have HV:Hid (esc s k=(qB,j+1)):=by
       show esc s k=_;unfold esc;dsimp only;rw[HR.o];dsimp only;rw[if_neg oo,if_neg oo,if_pos (by rw[<-kM];exact hbl)]
      go_wp2_with fail;refine aN (eY s _ (j) _ oo oo) ?_;go_wp2_with fail;refine aN (aT _ _) ?_;go_wp2_with fail;go_ret2
      rw[HV.o];exact⟨Rn rfl oo,Below.refl _ _⟩
     .by_cases hn2:255<n
      .have HV:Hid (esc s k=(qB,j+1)):=by
        show esc s k=_;unfold esc;dsimp only;rw[HR.o];dsimp only;rw[if_neg oo,if_neg oo,if_pos (by rw[<-kM];exact hbl)]
       go_wp2_with fail;refine aN (eY s _ (j) _ oo oo) ?_;go_wp2_with fail;refine aN (aT _ _) ?_;go_wp2_with fail;go_ret2
       rw[HV.o];exact⟨Rn rfl oo,Below.refl _ _⟩
      .have hcv:=fun(w:World)=>pY n w.heap.size oo w rfl;have HV:Hid (esc s k=(xA n,j+1)):=by
        show esc s k=_;unfold esc;dsimp only;rw[HR.o];dsimp only;rw[if_neg oo,if_pos ⟨oo,oo⟩,if_pos (by rw[<-kM];exact hbl)]
       go_wp2_with fail;refine aN (eY s _ (j) _ oo oo) ?_;go_wp2_with fail;refine aN (aT _ _) ?_;go_wp2_with fail;go_ret2
       rw[HV.o];exact⟨Rn rfl oo,(Below.refl _ _).alloc nl _⟩
end Go.Proofs.YtlliliddljkbfaaGreatDoor
