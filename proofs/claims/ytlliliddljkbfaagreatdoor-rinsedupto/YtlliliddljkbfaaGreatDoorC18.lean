import Derived.Test.YtlliliddljkbfaaGreatDoorC10
import Derived.Test.YtlliliddljkbfaaGreatDoorC16
import Derived.Test.YtlliliddljkbfaaGreatDoorC17
namespace Go.Proofs.YtlliliddljkbfaaGreatDoor
set_option maxHeartbeats 64000000
set_option maxRecDepth 100000
open Go.Proofs.Tryz (prog)
open Go.RowKit Sp
theorem EH(s:ByteArray)(i:Int)(k:Nat)(w:World)(hi:i=k)(hs:s.size<=600)(hk:k<=s.size)(h:fV s k=true):
  Calls prog 121 #[.string s,.int .i64 i] w fun e w'=>e=.returned (.int .i64 (dL s k:Int))/\w'=w:=by
 have:=LP s i k w hi hs hk;rw[if_pos h]at this;exact this
theorem gy(s:ByteArray)(i:Int)(k:Nat)(w:World)(hi:i=k)(hs:s.size<=600)(hk:k<=s.size)(h:fV s k=false):
  Calls prog 121 #[.string s,.int .i64 i] w fun e w'=>e=.returned (.int .i64 (k:Int))/\w'=w:=by
 have:=LP s i k w hi hs hk;rw[if_neg (by simp[h])]at this;exact this
theorem nO(s:ByteArray)(i:Int)(k:Nat)(w:World)(hi:i=k)(hs:s.size<=600)(hk:k<=s.size):
  Calls prog 119 #[.string s,.int .i64 i,.string ⟨#[60,33,45,45]⟩] w fun e w'=>e=.returned (.bool (jg s k))/\w'=w:=by
 have h:pre s k [60,33,45,45]=jg s k:=by simp[pre,jg,Bool.and_assoc]
 rw[<-h];exact Bg s i k _ w hi hs hk (by decide)
theorem pz(s:ByteArray)(i:Int)(k:Nat)(w:World)(hi:i=k)(hs:s.size<=600)(hk:k<=s.size):
  Calls prog 119 #[.string s,.int .i64 i,.string ⟨#[45,45,62]⟩] w fun e w'=>e=.returned (.bool (jJ s k))/\w'=w:=by
 have h:pre s k [45,45,62]=jJ s k:=by simp[pre,jJ,Bool.and_assoc]
 rw[<-h];exact Bg s i k _ w hi hs hk (by decide)
theorem EI(s:ByteArray)(k:Nat)(w:World)(hs:s.size<=600)(hk:k<s.size)(hbl:bJ (pk s k)=true)(hnu:fV s k=false)(HV:Hid (token s k=(Tok.k 1,Sp.blk s k))):
  Calls prog 75 #[.string s,.int .i64 (k:Int)] w fun e w'=>e=.returned (.tuple #[aF (token s k).1,.int .i64 ((token s k).2:Int)])/\Below w.heap.size w w':=by
 have W0:=RW.nh w;have h1:(k:Int)<(s.size:Int):=oo;have hix:=aV s k hk;cases hn:iD (a0 s (k+1));all_goals
  go_in;go_wp2_with fail;refine aN (aT _ _) ?_;go_wp2_with fail;refine aN (gy s _ k _ oo oo oo hnu) ?_;go_wp2_with fail;refine aN (bK s _ k _ oo oo oo) ?_;go_wp2_with fail;refine aN (eY s _ (k+1) _ oo oo) ?_;go_wp2_with fail;refine aN (gG _ _) ?_;go_wp2_with fail;try(go_at_call 125;refine aN (aU s _ (k+1) _ oo oo oo) ?_;go_wp2_with fail)
  refine aN (bK s _ (k+1) _ oo oo oo) ?_;go_wp2_with fail;refine aN (nM s _ k _ oo oo oo) ?_;go_wp2_with fail;refine bodyPost_ret (v:=.tuple #[aF (Tok.k 1),.int .i64 ((Sp.blk s k:Int))]) (by simp[results,Tryz.results75,go_sem,aF,Tok.k];rfl) rfl ⟨?_,(Below.refl _ _).alloc nl _⟩;rw[HV.o]
theorem EJ(s:ByteArray)(k:Nat)(w:World)(hs:s.size<=600)(hk:k<s.size)(hbl:bJ (pk s k)=true)(hnu:fV s k=true)(HV:Hid (token s k=(Tok.k 1,Sp.blk s k))):
  Calls prog 75 #[.string s,.int .i64 (k:Int)] w fun e w'=>e=.returned (.tuple #[aF (token s k).1,.int .i64 ((token s k).2:Int)])/\Below w.heap.size w w':=by
 have W0:=RW.nh w;have h1:(k:Int)<(s.size:Int):=oo;have hix:=aV s k hk;cases hn:iD (a0 s (k+1));all_goals
  go_in;go_wp2_with fail;refine aN (aT _ _) ?_;go_wp2_with fail;refine aN (EH s _ k _ oo oo oo hnu) ?_;go_wp2_with fail;refine aN (bK s _ k _ oo oo oo) ?_;go_wp2_with fail;refine aN (eY s _ (k+1) _ oo oo) ?_;go_wp2_with fail;refine aN (gG _ _) ?_;go_wp2_with fail;try(go_at_call 125;refine aN (aU s _ (k+1) _ oo oo oo) ?_;go_wp2_with fail)
  refine aN (bK s _ (k+1) _ oo oo oo) ?_;go_wp2_with fail;refine aN (nM s _ k _ oo oo oo) ?_;go_wp2_with fail;refine bodyPost_ret (v:=.tuple #[aF (Tok.k 1),.int .i64 ((Sp.blk s k:Int))]) (by simp[results,Tryz.results75,go_sem,aF,Tok.k];rfl) rfl ⟨?_,(Below.refl _ _).alloc nl _⟩;rw[HV.o]
theorem G8(s:ByteArray)(k:Nat)(w:World)(hs:s.size<=600)(hk:k<s.size)(hbl:bJ (pk s k)=false)(uj:(pk s k==34)=true)(hnu:fV s k=false)(HV:Hid (token s k=txt s (pk s k) (k+1))):
  Calls prog 75 #[.string s,.int .i64 (k:Int)] w fun e w'=>e=.returned (.tuple #[aF (token s k).1,.int .i64 ((token s k).2:Int)])/\Below w.heap.size w w':=by
 have W0:=RW.nh w;have h1:(k:Int)<(s.size:Int):=oo;have hix:=aV s k hk;cases hn:iD (a0 s (k+1));all_goals
  go_in;go_wp2_with fail;refine aN (aT _ _) ?_;go_wp2_with fail;refine aN (gy s _ k _ oo oo oo hnu) ?_;go_wp2_with fail;refine aN (bK s _ k _ oo oo oo) ?_;go_wp2_with fail;refine aN (eY s _ (k+1) _ oo oo) ?_;go_wp2_with fail;refine aN (gG _ _) ?_;go_wp2_with fail;try(go_at_call 125;refine aN (aU s _ (k+1) _ oo oo oo) ?_;go_wp2_with fail)
  refine aN (bK s _ (k+1) _ oo oo oo) ?_;go_wp2_with fail;refine pmb (LQ s _ (k+1) _ _ oo oo oo) fun w1 hb1=>?_;have W1:Hid (RW w w1):=W0.o.below hb1;have R1:Hid (fF w1 w.heap.size):=W1.o.2;clear hb1;have r0:=R1.o.c0;have r1:=R1.o.c1;have r2:=R1.o.c2;have rf:=R1.o.f;have rl:=R1.o.lt;unfold aF;go_wp2_with fail;refine bodyPost_ret (v:=.tuple #[aF ((txt s (pk s k) (k+1)).1),.int .i64 (((txt s (pk s k) (k+1)).2:Int))]) (by simp[results,Tryz.results75,go_sem,aF,r0,r1,r2]) rfl ⟨?_,W1.o.jr _ _ _⟩;rw[HV.o]
theorem G9(s:ByteArray)(k:Nat)(w:World)(hs:s.size<=600)(hk:k<s.size)(hbl:bJ (pk s k)=false)(uj:(pk s k==34)=false)(uY:(pk s k==39)=true)(hnu:fV s k=false)(HV:Hid (token s k=txt s (pk s k) (k+1))):
  Calls prog 75 #[.string s,.int .i64 (k:Int)] w fun e w'=>e=.returned (.tuple #[aF (token s k).1,.int .i64 ((token s k).2:Int)])/\Below w.heap.size w w':=by
 have W0:=RW.nh w;have h1:(k:Int)<(s.size:Int):=oo;have hix:=aV s k hk;cases hn:iD (a0 s (k+1));all_goals
  go_in;go_wp2_with fail;refine aN (aT _ _) ?_;go_wp2_with fail;refine aN (gy s _ k _ oo oo oo hnu) ?_;go_wp2_with fail;refine aN (bK s _ k _ oo oo oo) ?_;go_wp2_with fail;refine aN (eY s _ (k+1) _ oo oo) ?_;go_wp2_with fail;refine aN (gG _ _) ?_;go_wp2_with fail;try(go_at_call 125;refine aN (aU s _ (k+1) _ oo oo oo) ?_;go_wp2_with fail)
  refine aN (bK s _ (k+1) _ oo oo oo) ?_;go_wp2_with fail;refine pmb (LQ s _ (k+1) _ _ oo oo oo) fun w1 hb1=>?_;have W1:Hid (RW w w1):=W0.o.below hb1;have R1:Hid (fF w1 w.heap.size):=W1.o.2;clear hb1;have r0:=R1.o.c0;have r1:=R1.o.c1;have r2:=R1.o.c2;have rf:=R1.o.f;have rl:=R1.o.lt;unfold aF;go_wp2_with fail;refine bodyPost_ret (v:=.tuple #[aF ((txt s (pk s k) (k+1)).1),.int .i64 (((txt s (pk s k) (k+1)).2:Int))]) (by simp[results,Tryz.results75,go_sem,aF,r0,r1,r2]) rfl ⟨?_,W1.o.jr _ _ _⟩;rw[HV.o]
theorem LU(s:ByteArray)(k:Nat)(w:World)(hs:s.size<=600)(hk:k<s.size)(hbl:bJ (pk s k)=false)(uj:(pk s k==34)=false)(uY:(pk s k==39)=false)(h35:(pk s k==35)=true)(hnu:fV s k=false)(aee:iD (a0 s (k+1))=false->jq s (k+1)=true)(HV:Hid (token s k=(Tok.w 4 (Sp.name s (k+1)).1,(Sp.name s (k+1)).2))):
  Calls prog 75 #[.string s,.int .i64 (k:Int)] w fun e w'=>e=.returned (.tuple #[aF (token s k).1,.int .i64 ((token s k).2:Int)])/\Below w.heap.size w w':=by
 have W0:=RW.nh w;have h1:(k:Int)<(s.size:Int):=oo;have hix:=aV s k hk;cases hn:iD (a0 s (k+1));all_goals
  try have he:=aee hn
  go_in;go_wp2_with fail;refine aN (aT _ _) ?_;go_wp2_with fail;refine aN (gy s _ k _ oo oo oo hnu) ?_;go_wp2_with fail;refine aN (bK s _ k _ oo oo oo) ?_;go_wp2_with fail;refine aN (eY s _ (k+1) _ oo oo) ?_;go_wp2_with fail;refine aN (gG _ _) ?_;go_wp2_with fail;try(go_at_call 125;refine aN (aU s _ (k+1) _ oo oo oo) ?_;go_wp2_with fail)
  refine aN (bK s _ (k+1) _ oo oo oo) ?_;go_wp2_with fail;refine pmb (uV s _ (k+1) _ oo oo oo) fun w1 hb1=>?_;have W1:Hid (RW w w1):=W0.o.below hb1;have R1:Hid (fF w1 w.heap.size):=W1.o.2;clear hb1;have r0:=R1.o.c0;have r1:=R1.o.c1;have r2:=R1.o.c2;have rf:=R1.o.f;have rl:=R1.o.lt;go_wp2_with fail;refine bodyPost_ret (v:=.tuple #[aF (Tok.w 4 (Sp.name s (k+1)).1),.int .i64 (((Sp.name s (k+1)).2:Int))]) (by simp[results,Tryz.results75,go_sem,aF,Tok.w,r0,r1,r2];rfl) rfl ⟨?_,W1.o.jr _ _ _⟩;rw[HV.o]
theorem O9(s:ByteArray)(k:Nat)(w:World)(hs:s.size<=600)(hk:k<s.size)(hbl:bJ (pk s k)=false)(uj:(pk s k==34)=false)(uY:(pk s k==39)=false)(h35:(pk s k==35)=false)(hnu:fV s k=true)(HV:Hid (token s k=Sp.numeric s k)):
  Calls prog 75 #[.string s,.int .i64 (k:Int)] w fun e w'=>e=.returned (.tuple #[aF (token s k).1,.int .i64 ((token s k).2:Int)])/\Below w.heap.size w w':=by
 have W0:=RW.nh w;have h1:(k:Int)<(s.size:Int):=oo;have hix:=aV s k hk;have hgt:(k:Int)<(dL s k:Int):=by have:=DT hnu;omega
 have hle:dL s k<=s.size:=y8 oo;cases hn:iD (a0 s (k+1));all_goals
  go_in;go_wp2_with fail;refine aN (aT _ _) ?_;go_wp2_with fail;refine aN (EH s _ k _ oo oo oo hnu) ?_;go_wp2_with fail;refine aN (bK s _ k _ oo oo oo) ?_;go_wp2_with fail;refine aN (eY s _ (k+1) _ oo oo) ?_;go_wp2_with fail;refine aN (gG _ _) ?_;go_wp2_with fail;try(go_at_call 125;refine aN (aU s _ (k+1) _ oo oo oo) ?_;go_wp2_with fail)
  refine aN (bK s _ (k+1) _ oo oo oo) ?_;go_wp2_with fail;refine pmb (Tt s _ _ k (dL s k) _ oo oo oo oo hle rfl) fun w1 hb1=>?_;have W1:Hid (RW w w1):=W0.o.below hb1;have R1:Hid (fF w1 w.heap.size):=W1.o.2;clear hb1;have r0:=R1.o.c0;have r1:=R1.o.c1;have r2:=R1.o.c2;have rf:=R1.o.f;have rl:=R1.o.lt;unfold aF;go_wp2_with fail;refine bodyPost_ret (v:=.tuple #[aF ((Sp.numeric s k).1),.int .i64 (((Sp.numeric s k).2:Int))]) (by simp[results,Tryz.results75,go_sem,aF,r0,r1,r2]) rfl ⟨?_,W1.o.jr _ _ _⟩;rw[HV.o]
theorem He(s:ByteArray)(k:Nat)(w:World)(hs:s.size<=600)(hk:k<s.size)(hbl:bJ (pk s k)=false)(uj:(pk s k==34)=false)(uY:(pk s k==39)=false)(h35:(pk s k==35)=false)(hs4:jg s k=true)(hnu:fV s k=false)(HV:Hid (token s k=(Tok.k 8,k+4))):
  Calls prog 75 #[.string s,.int .i64 (k:Int)] w fun e w'=>e=.returned (.tuple #[aF (token s k).1,.int .i64 ((token s k).2:Int)])/\Below w.heap.size w w':=by
 have W0:=RW.nh w;have h1:(k:Int)<(s.size:Int):=oo;have hix:=aV s k hk;cases hn:iD (a0 s (k+1));all_goals
  go_in;go_wp2_with fail;refine aN (aT _ _) ?_;go_wp2_with fail;refine aN (gy s _ k _ oo oo oo hnu) ?_;go_wp2_with fail;refine aN (bK s _ k _ oo oo oo) ?_;go_wp2_with fail;refine aN (eY s _ (k+1) _ oo oo) ?_;go_wp2_with fail;refine aN (gG _ _) ?_;go_wp2_with fail;try(go_at_call 125;refine aN (aU s _ (k+1) _ oo oo oo) ?_;go_wp2_with fail)
  refine aN (bK s _ (k+1) _ oo oo oo) ?_;go_wp2_with fail;refine aN (nO s _ k _ oo oo oo) ?_;go_wp2_with fail;refine bodyPost_ret (v:=.tuple #[aF (Tok.k 8),.int .i64 ((k:Int)+4)]) (by simp[results,Tryz.results75,go_sem,aF,Tok.k];rfl) rfl ⟨?_,(Below.refl _ _).alloc nl _⟩;rw[HV.o];rfl
theorem EK(s:ByteArray)(k:Nat)(w:World)(hs:s.size<=600)(hk:k<s.size)(hbl:bJ (pk s k)=false)(uj:(pk s k==34)=false)(uY:(pk s k==39)=false)(h35:(pk s k==35)=false)(hs4:jg s k=false)(hs3:jJ s k=true)(hnu:fV s k=false)(HV:Hid (token s k=(Tok.k 9,k+3))):
  Calls prog 75 #[.string s,.int .i64 (k:Int)] w fun e w'=>e=.returned (.tuple #[aF (token s k).1,.int .i64 ((token s k).2:Int)])/\Below w.heap.size w w':=by
 have W0:=RW.nh w;have h1:(k:Int)<(s.size:Int):=oo;have hix:=aV s k hk;cases hn:iD (a0 s (k+1));all_goals
  go_in;go_wp2_with fail;refine aN (aT _ _) ?_;go_wp2_with fail;refine aN (gy s _ k _ oo oo oo hnu) ?_;go_wp2_with fail;refine aN (bK s _ k _ oo oo oo) ?_;go_wp2_with fail;refine aN (eY s _ (k+1) _ oo oo) ?_;go_wp2_with fail;refine aN (gG _ _) ?_;go_wp2_with fail;try(go_at_call 125;refine aN (aU s _ (k+1) _ oo oo oo) ?_;go_wp2_with fail)
  refine aN (bK s _ (k+1) _ oo oo oo) ?_;go_wp2_with fail;refine aN (nO s _ k _ oo oo oo) ?_;go_wp2_with fail;refine aN (pz s _ k _ oo oo oo) ?_;go_wp2_with fail;refine bodyPost_ret (v:=.tuple #[aF (Tok.k 9),.int .i64 ((k:Int)+3)]) (by simp[results,Tryz.results75,go_sem,aF,Tok.k];rfl) rfl ⟨?_,(Below.refl _ _).alloc nl _⟩;rw[HV.o];rfl
theorem Tz(s:ByteArray)(k:Nat)(w:World)(hs:s.size<=600)(hk:k<s.size)(hbl:bJ (pk s k)=false)(uj:(pk s k==34)=false)(uY:(pk s k==39)=false)(h35:(pk s k==35)=false)(hs4:jg s k=false)(hs3:jJ s k=false)(h64:(pk s k==64)=true)(hb1:iq s (k+1)=true)(hnu:fV s k=false)(HV:Hid (token s k=(Tok.w 10 (Sp.name s (k+1)).1,(Sp.name s (k+1)).2))):
  Calls prog 75 #[.string s,.int .i64 (k:Int)] w fun e w'=>e=.returned (.tuple #[aF (token s k).1,.int .i64 ((token s k).2:Int)])/\Below w.heap.size w w':=by
 have W0:=RW.nh w;have h1:(k:Int)<(s.size:Int):=oo;have hix:=aV s k hk;cases hn:iD (a0 s (k+1));all_goals
  go_in;go_wp2_with fail;refine aN (aT _ _) ?_;go_wp2_with fail;refine aN (gy s _ k _ oo oo oo hnu) ?_;go_wp2_with fail;refine aN (bK s _ k _ oo oo oo) ?_;go_wp2_with fail;refine aN (eY s _ (k+1) _ oo oo) ?_;go_wp2_with fail;refine aN (gG _ _) ?_;go_wp2_with fail;try(go_at_call 125;refine aN (aU s _ (k+1) _ oo oo oo) ?_;go_wp2_with fail)
  refine aN (bK s _ (k+1) _ oo oo oo) ?_;go_wp2_with fail;refine aN (nO s _ k _ oo oo oo) ?_;go_wp2_with fail;refine aN (pz s _ k _ oo oo oo) ?_;go_wp2_with fail;refine pmb (uV s _ (k+1) _ oo oo oo) fun w1 hb1=>?_;have W1:Hid (RW w w1):=W0.o.below hb1;have R1:Hid (fF w1 w.heap.size):=W1.o.2;clear hb1;have r0:=R1.o.c0;have r1:=R1.o.c1;have r2:=R1.o.c2;have rf:=R1.o.f;have rl:=R1.o.lt;go_wp2_with fail;refine bodyPost_ret (v:=.tuple #[aF (Tok.w 10 (Sp.name s (k+1)).1),.int .i64 (((Sp.name s (k+1)).2:Int))]) (by simp[results,Tryz.results75,go_sem,aF,Tok.w,r0,r1,r2];rfl) rfl ⟨?_,W1.o.jr _ _ _⟩;rw[HV.o]
theorem Dx(s:ByteArray)(k:Nat)(w:World)(hs:s.size<=600)(hk:k<s.size)(hbl:bJ (pk s k)=false)(uj:(pk s k==34)=false)(uY:(pk s k==39)=false)(h35:(pk s k==35)=false)(hs4:jg s k=false)(hs3:jJ s k=false)(h64:(pk s k==64)=false)(hb0:iq s k=true)(hnu:fV s k=false)(HV:Hid (token s k=named s k)):
  Calls prog 75 #[.string s,.int .i64 (k:Int)] w fun e w'=>e=.returned (.tuple #[aF (token s k).1,.int .i64 ((token s k).2:Int)])/\Below w.heap.size w w':=by
 have W0:=RW.nh w;have h1:(k:Int)<(s.size:Int):=oo;have hix:=aV s k hk;cases hn:iD (a0 s (k+1));all_goals
  go_in;go_wp2_with fail;refine aN (aT _ _) ?_;go_wp2_with fail;refine aN (gy s _ k _ oo oo oo hnu) ?_;go_wp2_with fail;refine aN (bK s _ k _ oo oo oo) ?_;go_wp2_with fail;refine aN (eY s _ (k+1) _ oo oo) ?_;go_wp2_with fail;refine aN (gG _ _) ?_;go_wp2_with fail;try(go_at_call 125;refine aN (aU s _ (k+1) _ oo oo oo) ?_;go_wp2_with fail)
  refine aN (bK s _ (k+1) _ oo oo oo) ?_;go_wp2_with fail;refine aN (nO s _ k _ oo oo oo) ?_;go_wp2_with fail;refine aN (pz s _ k _ oo oo oo) ?_;go_wp2_with fail;refine pmb (JK s _ k _ oo oo oo) fun w1 hb1=>?_;have W1:Hid (RW w w1):=W0.o.below hb1;have R1:Hid (fF w1 w.heap.size):=W1.o.2;clear hb1;have r0:=R1.o.c0;have r1:=R1.o.c1;have r2:=R1.o.c2;have rf:=R1.o.f;have rl:=R1.o.lt;unfold aF;go_wp2_with fail;refine bodyPost_ret (v:=.tuple #[aF ((named s k).1),.int .i64 (((named s k).2:Int))]) (by simp[results,Tryz.results75,go_sem,aF,r0,r1,r2]) rfl ⟨?_,W1.o.jr _ _ _⟩;rw[HV.o]
theorem EL(s:ByteArray)(k:Nat)(w:World)(hs:s.size<=600)(hk:k<s.size)(hbl:bJ (pk s k)=false)(uj:(pk s k==34)=false)(uY:(pk s k==39)=false)(h35:(pk s k==35)=false)(hs4:jg s k=false)(hs3:jJ s k=false)(h64:(pk s k==64)=false)(hb0:iq s k=false)(hnu:fV s k=false)(HV:Hid (token s k=(Tok.w 15 (one s k),k+1))):
  Calls prog 75 #[.string s,.int .i64 (k:Int)] w fun e w'=>e=.returned (.tuple #[aF (token s k).1,.int .i64 ((token s k).2:Int)])/\Below w.heap.size w w':=by
 have W0:=RW.nh w;have h1:(k:Int)<(s.size:Int):=oo;have hix:=aV s k hk;have hsl:=oV s k hk;cases hn:iD (a0 s (k+1));all_goals
  go_in;go_wp2_with fail;refine aN (aT _ _) ?_;go_wp2_with fail;refine aN (gy s _ k _ oo oo oo hnu) ?_;go_wp2_with fail;refine aN (bK s _ k _ oo oo oo) ?_;go_wp2_with fail;refine aN (eY s _ (k+1) _ oo oo) ?_;go_wp2_with fail;refine aN (gG _ _) ?_;go_wp2_with fail;try(go_at_call 125;refine aN (aU s _ (k+1) _ oo oo oo) ?_;go_wp2_with fail)
  refine aN (bK s _ (k+1) _ oo oo oo) ?_;go_wp2_with fail;refine aN (nO s _ k _ oo oo oo) ?_;go_wp2_with fail;refine aN (pz s _ k _ oo oo oo) ?_;go_wp2_with fail;refine bodyPost_ret (v:=.tuple #[aF (Tok.w 15 (one s k)),.int .i64 ((k:Int)+1)]) (by simp[results,Tryz.results75,go_sem,aF,Tok.w];rfl) rfl ⟨?_,(Below.refl _ _).alloc nl _⟩;rw[HV.o];rfl
theorem Dy(s:ByteArray)(k:Nat)(w:World)(hs:s.size<=600)(hk:k<s.size)(hbl:bJ (pk s k)=false)(uj:(pk s k==34)=false)(uY:(pk s k==39)=false)(h35:(pk s k==35)=false)(hs4:jg s k=false)(hs3:jJ s k=false)(h64:(pk s k==64)=true)(hb1:iq s (k+1)=false)(hb0:iq s k=true)(hnu:fV s k=false)(HV:Hid (token s k=named s k)):
  Calls prog 75 #[.string s,.int .i64 (k:Int)] w fun e w'=>e=.returned (.tuple #[aF (token s k).1,.int .i64 ((token s k).2:Int)])/\Below w.heap.size w w':=by
 have W0:=RW.nh w;have h1:(k:Int)<(s.size:Int):=oo;have hix:=aV s k hk;cases hn:iD (a0 s (k+1));all_goals
  go_in;go_wp2_with fail;refine aN (aT _ _) ?_;go_wp2_with fail;refine aN (gy s _ k _ oo oo oo hnu) ?_;go_wp2_with fail;refine aN (bK s _ k _ oo oo oo) ?_;go_wp2_with fail;refine aN (eY s _ (k+1) _ oo oo) ?_;go_wp2_with fail;refine aN (gG _ _) ?_;go_wp2_with fail;try(go_at_call 125;refine aN (aU s _ (k+1) _ oo oo oo) ?_;go_wp2_with fail)
  refine aN (bK s _ (k+1) _ oo oo oo) ?_;go_wp2_with fail;refine aN (nO s _ k _ oo oo oo) ?_;go_wp2_with fail;refine aN (pz s _ k _ oo oo oo) ?_;go_wp2_with fail;refine pmb (JK s _ k _ oo oo oo) fun w1 hb1=>?_;have W1:Hid (RW w w1):=W0.o.below hb1;have R1:Hid (fF w1 w.heap.size):=W1.o.2;clear hb1;have r0:=R1.o.c0;have r1:=R1.o.c1;have r2:=R1.o.c2;have rf:=R1.o.f;have rl:=R1.o.lt;unfold aF;go_wp2_with fail;refine bodyPost_ret (v:=.tuple #[aF ((named s k).1),.int .i64 (((named s k).2:Int))]) (by simp[results,Tryz.results75,go_sem,aF,r0,r1,r2]) rfl ⟨?_,W1.o.jr _ _ _⟩;rw[HV.o]
theorem EN(s:ByteArray)(k:Nat)(w:World)(hs:s.size<=600)(hk:k<s.size)(hbl:bJ (pk s k)=false)(uj:(pk s k==34)=false)(uY:(pk s k==39)=false)(h35:(pk s k==35)=false)(hs4:jg s k=false)(hs3:jJ s k=false)(h64:(pk s k==64)=true)(hb1:iq s (k+1)=false)(hb0:iq s k=false)(hnu:fV s k=false)(HV:Hid (token s k=(Tok.w 15 (one s k),k+1))):
  Calls prog 75 #[.string s,.int .i64 (k:Int)] w fun e w'=>e=.returned (.tuple #[aF (token s k).1,.int .i64 ((token s k).2:Int)])/\Below w.heap.size w w':=by
 have W0:=RW.nh w;have h1:(k:Int)<(s.size:Int):=oo;have hix:=aV s k hk;have hsl:=oV s k hk;cases hn:iD (a0 s (k+1));all_goals
  go_in;go_wp2_with fail;refine aN (aT _ _) ?_;go_wp2_with fail;refine aN (gy s _ k _ oo oo oo hnu) ?_;go_wp2_with fail;refine aN (bK s _ k _ oo oo oo) ?_;go_wp2_with fail;refine aN (eY s _ (k+1) _ oo oo) ?_;go_wp2_with fail;refine aN (gG _ _) ?_;go_wp2_with fail;try(go_at_call 125;refine aN (aU s _ (k+1) _ oo oo oo) ?_;go_wp2_with fail)
  refine aN (bK s _ (k+1) _ oo oo oo) ?_;go_wp2_with fail;refine aN (nO s _ k _ oo oo oo) ?_;go_wp2_with fail;refine aN (pz s _ k _ oo oo oo) ?_;go_wp2_with fail;refine bodyPost_ret (v:=.tuple #[aF (Tok.w 15 (one s k)),.int .i64 ((k:Int)+1)]) (by simp[results,Tryz.results75,go_sem,aF,Tok.w];rfl) rfl ⟨?_,(Below.refl _ _).alloc nl _⟩;rw[HV.o];rfl
theorem Hf(s:ByteArray)(k:Nat)(w:World)(hs:s.size<=600)(hk:k<s.size)(hbl:bJ (pk s k)=false)(uj:(pk s k==34)=false)(uY:(pk s k==39)=false)(h35:(pk s k==35)=true)(hs4:jg s k=true)(hnu:fV s k=false)(hn:iD (a0 s (k+1))=false)(he:jq s (k+1)=false)(HV:Hid (token s k=(Tok.k 8,k+4))):
  Calls prog 75 #[.string s,.int .i64 (k:Int)] w fun e w'=>e=.returned (.tuple #[aF (token s k).1,.int .i64 ((token s k).2:Int)])/\Below w.heap.size w w':=by
 have W0:=RW.nh w;have h1:(k:Int)<(s.size:Int):=oo;have hix:=aV s k hk;go_in;go_wp2_with fail;refine aN (aT _ _) ?_;go_wp2_with fail;refine aN (gy s _ k _ oo oo oo hnu) ?_;go_wp2_with fail;refine aN (bK s _ k _ oo oo oo) ?_;go_wp2_with fail;refine aN (eY s _ (k+1) _ oo oo) ?_;go_wp2_with fail;refine aN (gG _ _) ?_;go_wp2_with fail;try(go_at_call 125;refine aN (aU s _ (k+1) _ oo oo oo) ?_;go_wp2_with fail)
 refine aN (bK s _ (k+1) _ oo oo oo) ?_;go_wp2_with fail;refine aN (nO s _ k _ oo oo oo) ?_;go_wp2_with fail;refine bodyPost_ret (v:=.tuple #[aF (Tok.k 8),.int .i64 ((k:Int)+4)]) (by simp[results,Tryz.results75,go_sem,aF,Tok.k];rfl) rfl ⟨?_,(Below.refl _ _).alloc nl _⟩;rw[HV.o];rfl
theorem EO(s:ByteArray)(k:Nat)(w:World)(hs:s.size<=600)(hk:k<s.size)(hbl:bJ (pk s k)=false)(uj:(pk s k==34)=false)(uY:(pk s k==39)=false)(h35:(pk s k==35)=true)(hs4:jg s k=false)(hs3:jJ s k=true)(hnu:fV s k=false)(hn:iD (a0 s (k+1))=false)(he:jq s (k+1)=false)(HV:Hid (token s k=(Tok.k 9,k+3))):
  Calls prog 75 #[.string s,.int .i64 (k:Int)] w fun e w'=>e=.returned (.tuple #[aF (token s k).1,.int .i64 ((token s k).2:Int)])/\Below w.heap.size w w':=by
 have W0:=RW.nh w;have h1:(k:Int)<(s.size:Int):=oo;have hix:=aV s k hk;go_in;go_wp2_with fail;refine aN (aT _ _) ?_;go_wp2_with fail;refine aN (gy s _ k _ oo oo oo hnu) ?_;go_wp2_with fail;refine aN (bK s _ k _ oo oo oo) ?_;go_wp2_with fail;refine aN (eY s _ (k+1) _ oo oo) ?_;go_wp2_with fail;refine aN (gG _ _) ?_;go_wp2_with fail;try(go_at_call 125;refine aN (aU s _ (k+1) _ oo oo oo) ?_;go_wp2_with fail)
 refine aN (bK s _ (k+1) _ oo oo oo) ?_;go_wp2_with fail;refine aN (nO s _ k _ oo oo oo) ?_;go_wp2_with fail;refine aN (pz s _ k _ oo oo oo) ?_;go_wp2_with fail;refine bodyPost_ret (v:=.tuple #[aF (Tok.k 9),.int .i64 ((k:Int)+3)]) (by simp[results,Tryz.results75,go_sem,aF,Tok.k];rfl) rfl ⟨?_,(Below.refl _ _).alloc nl _⟩;rw[HV.o];rfl
theorem Dz(s:ByteArray)(k:Nat)(w:World)(hs:s.size<=600)(hk:k<s.size)(hbl:bJ (pk s k)=false)(uj:(pk s k==34)=false)(uY:(pk s k==39)=false)(h35:(pk s k==35)=true)(hs4:jg s k=false)(hs3:jJ s k=false)(h64:(pk s k==64)=false)(hb0:iq s k=true)(hnu:fV s k=false)(hn:iD (a0 s (k+1))=false)(he:jq s (k+1)=false)(HV:Hid (token s k=named s k)):
  Calls prog 75 #[.string s,.int .i64 (k:Int)] w fun e w'=>e=.returned (.tuple #[aF (token s k).1,.int .i64 ((token s k).2:Int)])/\Below w.heap.size w w':=by
 have W0:=RW.nh w;have h1:(k:Int)<(s.size:Int):=oo;have hix:=aV s k hk;go_in;go_wp2_with fail;refine aN (aT _ _) ?_;go_wp2_with fail;refine aN (gy s _ k _ oo oo oo hnu) ?_;go_wp2_with fail;refine aN (bK s _ k _ oo oo oo) ?_;go_wp2_with fail;refine aN (eY s _ (k+1) _ oo oo) ?_;go_wp2_with fail;refine aN (gG _ _) ?_;go_wp2_with fail;try(go_at_call 125;refine aN (aU s _ (k+1) _ oo oo oo) ?_;go_wp2_with fail)
 refine aN (bK s _ (k+1) _ oo oo oo) ?_;go_wp2_with fail;refine aN (nO s _ k _ oo oo oo) ?_;go_wp2_with fail;refine aN (pz s _ k _ oo oo oo) ?_;go_wp2_with fail;refine pmb (JK s _ k _ oo oo oo) fun w1 hb1=>?_;have W1:Hid (RW w w1):=W0.o.below hb1;have R1:Hid (fF w1 w.heap.size):=W1.o.2;clear hb1;have r0:=R1.o.c0;have r1:=R1.o.c1;have r2:=R1.o.c2;have rf:=R1.o.f;have rl:=R1.o.lt;unfold aF;go_wp2_with fail;refine bodyPost_ret (v:=.tuple #[aF ((named s k).1),.int .i64 (((named s k).2:Int))]) (by simp[results,Tryz.results75,go_sem,aF,r0,r1,r2]) rfl ⟨?_,W1.o.jr _ _ _⟩;rw[HV.o]
theorem EP(s:ByteArray)(k:Nat)(w:World)(hs:s.size<=600)(hk:k<s.size)(hbl:bJ (pk s k)=false)(uj:(pk s k==34)=false)(uY:(pk s k==39)=false)(h35:(pk s k==35)=true)(hs4:jg s k=false)(hs3:jJ s k=false)(h64:(pk s k==64)=false)(hb0:iq s k=false)(hnu:fV s k=false)(hn:iD (a0 s (k+1))=false)(he:jq s (k+1)=false)(HV:Hid (token s k=(Tok.w 15 (one s k),k+1))):
  Calls prog 75 #[.string s,.int .i64 (k:Int)] w fun e w'=>e=.returned (.tuple #[aF (token s k).1,.int .i64 ((token s k).2:Int)])/\Below w.heap.size w w':=by
 have W0:=RW.nh w;have h1:(k:Int)<(s.size:Int):=oo;have hix:=aV s k hk;have hsl:=oV s k hk;go_in;go_wp2_with fail;refine aN (aT _ _) ?_;go_wp2_with fail;refine aN (gy s _ k _ oo oo oo hnu) ?_;go_wp2_with fail;refine aN (bK s _ k _ oo oo oo) ?_;go_wp2_with fail;refine aN (eY s _ (k+1) _ oo oo) ?_;go_wp2_with fail;refine aN (gG _ _) ?_;go_wp2_with fail;try(go_at_call 125;refine aN (aU s _ (k+1) _ oo oo oo) ?_;go_wp2_with fail)
 refine aN (bK s _ (k+1) _ oo oo oo) ?_;go_wp2_with fail;refine aN (nO s _ k _ oo oo oo) ?_;go_wp2_with fail;refine aN (pz s _ k _ oo oo oo) ?_;go_wp2_with fail;refine bodyPost_ret (v:=.tuple #[aF (Tok.w 15 (one s k)),.int .i64 ((k:Int)+1)]) (by simp[results,Tryz.results75,go_sem,aF,Tok.w];rfl) rfl ⟨?_,(Below.refl _ _).alloc nl _⟩;rw[HV.o];rfl
theorem Zh(s:ByteArray)(i:Int)(k:Nat)(w:World)(hi:i=k)(hs:s.size<=600)(hk:k<s.size):
  Calls prog 75 #[.string s,.int .i64 i] w fun e w'=>e=.returned (.tuple #[aF (token s k).1,.int .i64 ((token s k).2:Int)])/\Below w.heap.size w w':=by
 subst hi;have T:token s k=token s k:=rfl;conv at T=>rhs;unfold token
 cases hbl:bJ (pk s k)
 .rw[hbl]at T;cases rW:fU (pk s k)
  .have uj:(pk s k==34)=false:=by simp only[fU,Bool.or_eq_false_iff]at rW;exact rW.1
   have uY:(pk s k==39)=false:=by simp only[fU,Bool.or_eq_false_iff]at rW;exact rW.2
   rw[rW]at T;have key:∀(_:pk s k=35->jD s (k+1)=false),Calls prog 75 #[.string s,.int .i64 (k:Int)] w fun e w'=>e=.returned (.tuple #[aF (token s k).1,.int .i64 ((token s k).2:Int)])/\Below w.heap.size w w':=by
    intro hno;have hnn:pk s k=35->iD (a0 s (k+1))=false:=fun h=>by have:=hno h;simp only[jD,Bool.or_eq_false_iff]at this;rw[Rl];exact this.1
    have hee:pk s k=35->jq s (k+1)=false:=fun h=>by have:=hno h;simp only[jD,Bool.or_eq_false_iff]at this;exact this.2
    rw[if_neg (by simp),if_neg (by simp),if_neg (fun h=>by simp[hno h.1]at h)]at T;cases hnu:fV s k
    .rw[hnu,if_neg (by simp)]at T;cases hs4:jg s k
     .rw[hs4,if_neg (by simp)]at T;cases hs3:jJ s k
      .rw[hs3,if_neg (by simp)]at T;by_cases hat:pk s k=64
       .have h35:(pk s k==35)=false:=by rw[hat];rfl
        have h64:(pk s k==64)=true:=by rw[hat];rfl
        cases hb1:iq s (k+1)
        .rw[if_neg (by simp[hb1])]at T;cases hb0:iq s k
         .rw[hb0,if_neg (by simp)]at T;exact EN s k w hs hk hbl uj uY h35 hs4 hs3 h64 hb1 hb0 hnu T
         .rw[hb0,if_pos rfl]at T;exact Dy s k w hs hk hbl uj uY h35 hs4 hs3 h64 hb1 hb0 hnu T
        .rw[if_pos ⟨hat,hb1⟩]at T;exact Tz s k w hs hk hbl uj uY h35 hs4 hs3 h64 hb1 hnu T
       .have h64:(pk s k==64)=false:=by simpa using hat
        rw[if_neg (fun h=>hat h.1)]at T;cases hb0:iq s k
        .rw[hb0,if_neg (by simp)]at T;cases h35:(pk s k==35)
         .exact EL s k w hs hk hbl uj uY h35 hs4 hs3 h64 hb0 hnu T
         .exact EP s k w hs hk hbl uj uY h35 hs4 hs3 h64 hb0 hnu (hnn (by simpa using h35)) (hee (by simpa using h35)) T
        .rw[hb0,if_pos rfl]at T;cases h35:(pk s k==35)
         .exact Dx s k w hs hk hbl uj uY h35 hs4 hs3 h64 hb0 hnu T
         .exact Dz s k w hs hk hbl uj uY h35 hs4 hs3 h64 hb0 hnu (hnn (by simpa using h35)) (hee (by simpa using h35)) T
      .rw[hs3,if_pos rfl]at T;cases h35:(pk s k==35)
       .exact EK s k w hs hk hbl uj uY h35 hs4 hs3 hnu T
       .exact EO s k w hs hk hbl uj uY h35 hs4 hs3 hnu (hnn (by simpa using h35)) (hee (by simpa using h35)) T
     .rw[hs4,if_pos rfl]at T;cases h35:(pk s k==35)
      .exact He s k w hs hk hbl uj uY h35 hs4 hnu T
      .exact Hf s k w hs hk hbl uj uY h35 hs4 hnu (hnn (by simpa using h35)) (hee (by simpa using h35)) T
    .rw[hnu,if_pos rfl]at T;have h35:(pk s k==35)=false:=by
      cases h:(pk s k==35)
      .rfl
      .exfalso
       have e:pk s k=35:=by simpa using h
       have h2:fO s k=k:=by unfold fO;rw[e,if_neg (by decide)]
       have h3:fV s k=false:=by unfold fV;rw[h2,e];rfl
       rw[h3]at hnu;cases hnu
     exact O9 s k w hs hk hbl uj uY h35 hnu T
   by_cases hha:pk s k=35
   .have h35:(pk s k==35)=true:=by rw[hha];rfl
    cases hgo:jD s (k+1)
    .exact key (fun _=>hgo)
    .rw[if_neg (by simp),if_neg (by simp),if_pos ⟨hha,hgo⟩]at T;have hnu:fV s k=false:=by
      have h2:fO s k=k:=by unfold fO;rw[hha,if_neg (by decide)]
      unfold fV;rw[h2,hha];rfl
     exact LU s k w hs hk hbl uj uY h35 hnu (fun h=>by rw[Rl]at h;simpa[jD,h]using hgo) T
   .exact key (fun h=>absurd h hha)
  .rw[rW,if_neg (by simp),if_pos rfl]at T;have hsg:∀c:Int,pk s k=c->(c=34\/c=39)->fV s k=false:=fun c e hc=>by
    have h2:fO s k=k:=by unfold fO;rw[e];rcases hc with rfl|rfl<;>rfl
    unfold fV;rw[h2,e];rcases hc with rfl|rfl<;>rfl
   cases uj:(pk s k==34)
   .have uY:(pk s k==39)=true:=by simpa[fU,uj]using rW
    exact G9 s k w hs hk hbl uj uY (hsg 39 (by simpa using uY) (.inr rfl)) T
   .exact G8 s k w hs hk hbl uj (hsg 34 (by simpa using uj) (.inl rfl)) T
 .rw[hbl,if_pos rfl]at T;cases hnu:fV s k
  .exact EI s k w hs hk hbl hnu T
  .exact EJ s k w hs hk hbl hnu T
theorem pre2(s:ByteArray)(i:Nat)(a b:UInt8):pre s i [a,b]=(pk s i==(a.toNat:Int)&&pk s (i+1)==(b.toNat:Int)):=by simp[pre]
theorem ER(s:ByteArray)(i:Int)(k:Nat)(w:World)(hi:i=k)(hs:s.size<=600)(hk:k<=s.size):
  Calls prog 74 #[.string s,.int .i64 i] w fun e w'=>e=.returned (.int .i64 (com s k))/\w'=w:=by
 subst hi;go_in;go_wp2_with fail;go_loopg[1,5] s.size (fun g v1 v5 wr=>∃j:Nat,s.size<=j+g/\j<=s.size/\v1=.int .i64 (j:Int)/\Aside (uG s g j=com s k/\w=wr));case atStart=>exact⟨k,oo,hk,rfl,rfl,rfl⟩
 case round=>
  obtain⟨j,hj,hj2,rfl,hA⟩:=hrel;have H1:Hid (uG s gk j=com s k):=hA.o.1;obtain rfl:=hA.o.2;clear hA;cases hp:pre s j [47,42]
  .have HV:Hid (com s k=j):=by
    show _=_;rw[pre2]at hp;rw[<-H1.o];cases gk with
    |zero=>rfl
    |succ f=>unfold uG;rw[if_neg (fun h=>by simp[h]at hp)]
   go_wp2_with fail;refine(Bg s _ j _ _ oo oo oo (by decide)).mono ?_;rintro e wq ⟨rfl,rfl⟩;go_wp2_with fail;go_ret;exact⟨wL (by rw[HV.o]),rfl⟩
  .have ho:pk s j=47/\pk s (j+1)=42:=by rw[pre2]at hp;simpa using hp
   have hlt:j+1<s.size:=dX oo;have hge:=DU s (j+2);have hle:=QV (s:=s) (k:=j+2) oo;obtain⟨f,rfl⟩:∃f,gk=f+1:=⟨gk-1,oo⟩;have dW:=H1.o;unfold uG at dW;rw[if_pos ho]at dW;have HC:Hid ((if s.size<=star s (j+2) then s.size else uG s f (star s (j+2)+2))=com s k):=dW;clear ho dW H1;go_wp2_with fail;refine(Bg s _ j _ _ oo oo oo (by decide)).mono ?_;rintro e wq ⟨rfl,rfl⟩;go_wp2_with fail;go_loopg[5] s.size (fun g v5 wr=>∃q:Nat,s.size<=q+g/\q<=s.size/\j+2<=q/\v5=.int .i64 (q:Int)/\Aside (ku s g q=star s (j+2)/\wq=wr));case atStart=>exact⟨j+2,oo,oo,oo,rfl,rfl,rfl⟩
   case round=>
    obtain⟨q,hq,hq2,hq3,rfl,hA⟩:=hrel;have H2:Hid (ku s gk q=star s (j+2)):=hA.o.1;obtain rfl:=hA.o.2;clear hA;by_cases hql:q<s.size
    .have h1:(q:Int)<(s.size:Int):=oo;cases hp2:pre s q [42,47]
     .obtain⟨f2,rfl⟩:∃f2,gk=f2+1:=⟨gk-1,oo⟩;have HV:Hid (ku s f2 (q+1)=star s (j+2)):=by
       show _=_;rw[pre2]at hp2;rw[<-H2.o];conv=>rhs;unfold ku
       rw[if_pos ⟨hql,fun h=>by simp[h]at hp2⟩]
      go_wp2_with fail;refine(Bg s _ q _ _ oo oo oo (by decide)).mono ?_;rintro e wq ⟨rfl,rfl⟩;go_wp2_with fail;go_roundg f2;case measure=>omega
      case rel=>exact⟨q+1,oo,oo,oo,by congr 1,HV.o,rfl⟩
     .have HV:Hid (star s (j+2)=q):=by
       show _=_;rw[pre2]at hp2;rw[<-H2.o];cases gk with
       |zero=>rfl
       |succ f2=>unfold ku;rw[if_neg (fun h=>h.2 (by simpa using hp2))]
      have hq4:q+2<=s.size:=by
       rw[pre2]at hp2;have h47:pk s (q+1)=47:=by simp at hp2;exact hp2.2
       have:=dX (s:=s) (i:=q+1) oo;omega
      have HE:Hid (uG s f (q+2)=com s k):=by have:=HC.o;rw[HV.o,if_neg oo]at this;exact this
      go_wp2_with fail;refine(Bg s _ q _ _ oo oo oo (by decide)).mono ?_;rintro e wq ⟨rfl,rfl⟩;go_wp2_with fail;go_roundg f;case measure=>omega
      case rel=>exact⟨q+2,oo,oo,by congr 1,HE.o,rfl⟩
    .have h1:(s.size:Int)<=(q:Int):=oo;have HV:Hid (com s k=s.size):=by
      have e1:star s (j+2)=q:=by
       rw[<-H2.o];cases gk with
       |zero=>rfl
       |succ f2=>unfold ku;rw[if_neg (fun h=>hql h.1)]
      have:=HC.o;rw[e1,if_pos oo]at this;exact this.symm
     go_wp2_with fail;go_ret;exact⟨wL (by rw[HV.o]),rfl⟩
end Go.Proofs.YtlliliddljkbfaaGreatDoor
