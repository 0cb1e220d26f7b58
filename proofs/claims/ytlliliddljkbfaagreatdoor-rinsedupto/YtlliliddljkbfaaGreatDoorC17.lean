import Derived.Test.YtlliliddljkbfaaGreatDoorC10
import Derived.Test.YtlliliddljkbfaaGreatDoorC15
namespace Go.Proofs.YtlliliddljkbfaaGreatDoor
set_option maxHeartbeats 64000000
set_option maxRecDepth 100000
open Go.Proofs.Tryz (prog)
open Go.RowKit Sp
theorem fM{p:Prop}(h:p:=by
 have _h:=hi;have _h0:=h0;try have _h1:=h1
 try have _h2:=h2
 try have _h3:=h3
 go_in;repeat
  go_wp2_with fail;first
   |(go_at_call 108;refine aN (cO _ _) ?_)
   |(go_at_call 124;with_reducible(first|refine(eY s _ k0 _ oo oo).mono ?_|refine(eY s _ k1 _ oo oo).mono ?_|refine(eY s _ (k0+1) _ oo oo).mono ?_|refine(eY s _ (k1+1) _ oo oo).mono ?_|refine(eY s _ k2 _ oo oo).mono ?_|refine(eY s _ k3 _ oo oo).mono ?_);rintro e wq ⟨rfl,rfl⟩)
   |(go_at_call 196;with_reducible(first|(refine(Es s _ i _ oo oo oo).mono ?_;rw[lS.o])|(refine(Es s _ (k1+1) _ oo oo oo).mono ?_;rw[uD.o])|(refine(Es s _ (k2+1) _ oo oo oo).mono ?_;rw[uD.o]));rintro e wq ⟨rfl,rfl⟩)
   |(go_at_call 197;with_reducible(first|(refine(zI s _ k0 _ oo oo oo).mono ?_;rw[l7.o])|(refine(zI s _ (k1+1) _ oo oo oo).mono ?_;rw[OM.o])|refine(zI s _ k3 _ oo oo oo).mono ?_|refine(zI s _ (k0+1) _ oo oo oo).mono ?_);rintro e wq ⟨rfl,rfl⟩)
 go_wp2_with fail;go_ret;exact⟨wL HV.o,rfl⟩):p:=h
theorem Tv(s:ByteArray)(i k0:Nat)(w:World)(hs:s.size<=600)(hi:i<=s.size)(lS:Hid (fO s i=k0))(h0:k0<=700)(d0:aP (a0 s k0)=false)(p0:(a0 s k0==46)=false)(r:Int)(HV:Hid (((i:Nat):Int)=r)):
  Calls prog 121 #[.string s,.int .i64 (i:Int)] w fun e w'=>e=.returned (.int .i64 r)/\w'=w:=fM
theorem O8(s:ByteArray)(i k0:Nat)(w:World)(hs:s.size<=600)(hi:i<=s.size)(lS:Hid (fO s i=k0))(h0:k0<=700)(d0:aP (a0 s k0)=false)(p0:(a0 s k0==46)=true)(q0:aP (a0 s (k0+1))=false)(r:Int)(HV:Hid (((i:Nat):Int)=r)):
  Calls prog 121 #[.string s,.int .i64 (i:Int)] w fun e w'=>e=.returned (.int .i64 r)/\w'=w:=fM
theorem wP(s:ByteArray)(i k0:Nat)(w:World)(hs:s.size<=600)(hi:i<=s.size)(lS:Hid (fO s i=k0))(h0:k0<=700)(d0:aP (a0 s k0)=true)(p0:(a0 s k0==46)=false)(k1:Nat)(l7:Hid (gJ s k0=k1))(h1:k1<=700)(p1:(a0 s k1==46)=false)(t1:(a0 s k1==101)=true)(k3:Nat)(uD:Hid (fO s (k1+1)=k3))(h3:k3<=800)(d3:aP (a0 s k3)=true)(r:Int)(HV:Hid (((gJ s k3:Nat):Int)=r)):
  Calls prog 121 #[.string s,.int .i64 (i:Int)] w fun e w'=>e=.returned (.int .i64 r)/\w'=w:=fM
theorem wQ(s:ByteArray)(i k0:Nat)(w:World)(hs:s.size<=600)(hi:i<=s.size)(lS:Hid (fO s i=k0))(h0:k0<=700)(d0:aP (a0 s k0)=true)(p0:(a0 s k0==46)=false)(k1:Nat)(l7:Hid (gJ s k0=k1))(h1:k1<=700)(p1:(a0 s k1==46)=false)(t1:(a0 s k1==101)=true)(k3:Nat)(uD:Hid (fO s (k1+1)=k3))(h3:k3<=800)(d3:aP (a0 s k3)=false)(r:Int)(HV:Hid (((k1:Nat):Int)=r)):
  Calls prog 121 #[.string s,.int .i64 (i:Int)] w fun e w'=>e=.returned (.int .i64 r)/\w'=w:=fM
theorem yu(s:ByteArray)(i k0:Nat)(w:World)(hs:s.size<=600)(hi:i<=s.size)(lS:Hid (fO s i=k0))(h0:k0<=700)(d0:aP (a0 s k0)=true)(p0:(a0 s k0==46)=false)(k1:Nat)(l7:Hid (gJ s k0=k1))(h1:k1<=700)(p1:(a0 s k1==46)=false)(t1:(a0 s k1==101)=false)(t2:(a0 s k1==69)=true)(k3:Nat)(uD:Hid (fO s (k1+1)=k3))(h3:k3<=800)(d3:aP (a0 s k3)=true)(r:Int)(HV:Hid (((gJ s k3:Nat):Int)=r)):
  Calls prog 121 #[.string s,.int .i64 (i:Int)] w fun e w'=>e=.returned (.int .i64 r)/\w'=w:=fM
theorem yw(s:ByteArray)(i k0:Nat)(w:World)(hs:s.size<=600)(hi:i<=s.size)(lS:Hid (fO s i=k0))(h0:k0<=700)(d0:aP (a0 s k0)=true)(p0:(a0 s k0==46)=false)(k1:Nat)(l7:Hid (gJ s k0=k1))(h1:k1<=700)(p1:(a0 s k1==46)=false)(t1:(a0 s k1==101)=false)(t2:(a0 s k1==69)=true)(k3:Nat)(uD:Hid (fO s (k1+1)=k3))(h3:k3<=800)(d3:aP (a0 s k3)=false)(r:Int)(HV:Hid (((k1:Nat):Int)=r)):
  Calls prog 121 #[.string s,.int .i64 (i:Int)] w fun e w'=>e=.returned (.int .i64 r)/\w'=w:=fM
theorem wR(s:ByteArray)(i k0:Nat)(w:World)(hs:s.size<=600)(hi:i<=s.size)(lS:Hid (fO s i=k0))(h0:k0<=700)(d0:aP (a0 s k0)=true)(p0:(a0 s k0==46)=false)(k1:Nat)(l7:Hid (gJ s k0=k1))(h1:k1<=700)(p1:(a0 s k1==46)=false)(t1:(a0 s k1==101)=false)(t2:(a0 s k1==69)=false)(r:Int)(HV:Hid (((k1:Nat):Int)=r)):
  Calls prog 121 #[.string s,.int .i64 (i:Int)] w fun e w'=>e=.returned (.int .i64 r)/\w'=w:=fM
theorem wS(s:ByteArray)(i k0:Nat)(w:World)(hs:s.size<=600)(hi:i<=s.size)(lS:Hid (fO s i=k0))(h0:k0<=700)(d0:aP (a0 s k0)=true)(p0:(a0 s k0==46)=false)(k1:Nat)(l7:Hid (gJ s k0=k1))(h1:k1<=700)(p1:(a0 s k1==46)=true)(q1:aP (a0 s (k1+1))=false)(t1:(a0 s k1==101)=true)(k3:Nat)(uD:Hid (fO s (k1+1)=k3))(h3:k3<=800)(d3:aP (a0 s k3)=true)(r:Int)(HV:Hid (((gJ s k3:Nat):Int)=r)):
  Calls prog 121 #[.string s,.int .i64 (i:Int)] w fun e w'=>e=.returned (.int .i64 r)/\w'=w:=fM
theorem wU(s:ByteArray)(i k0:Nat)(w:World)(hs:s.size<=600)(hi:i<=s.size)(lS:Hid (fO s i=k0))(h0:k0<=700)(d0:aP (a0 s k0)=true)(p0:(a0 s k0==46)=false)(k1:Nat)(l7:Hid (gJ s k0=k1))(h1:k1<=700)(p1:(a0 s k1==46)=true)(q1:aP (a0 s (k1+1))=false)(t1:(a0 s k1==101)=true)(k3:Nat)(uD:Hid (fO s (k1+1)=k3))(h3:k3<=800)(d3:aP (a0 s k3)=false)(r:Int)(HV:Hid (((k1:Nat):Int)=r)):
  Calls prog 121 #[.string s,.int .i64 (i:Int)] w fun e w'=>e=.returned (.int .i64 r)/\w'=w:=fM
theorem yx(s:ByteArray)(i k0:Nat)(w:World)(hs:s.size<=600)(hi:i<=s.size)(lS:Hid (fO s i=k0))(h0:k0<=700)(d0:aP (a0 s k0)=true)(p0:(a0 s k0==46)=false)(k1:Nat)(l7:Hid (gJ s k0=k1))(h1:k1<=700)(p1:(a0 s k1==46)=true)(q1:aP (a0 s (k1+1))=false)(t1:(a0 s k1==101)=false)(t2:(a0 s k1==69)=true)(k3:Nat)(uD:Hid (fO s (k1+1)=k3))(h3:k3<=800)(d3:aP (a0 s k3)=true)(r:Int)(HV:Hid (((gJ s k3:Nat):Int)=r)):
  Calls prog 121 #[.string s,.int .i64 (i:Int)] w fun e w'=>e=.returned (.int .i64 r)/\w'=w:=fM
theorem yA(s:ByteArray)(i k0:Nat)(w:World)(hs:s.size<=600)(hi:i<=s.size)(lS:Hid (fO s i=k0))(h0:k0<=700)(d0:aP (a0 s k0)=true)(p0:(a0 s k0==46)=false)(k1:Nat)(l7:Hid (gJ s k0=k1))(h1:k1<=700)(p1:(a0 s k1==46)=true)(q1:aP (a0 s (k1+1))=false)(t1:(a0 s k1==101)=false)(t2:(a0 s k1==69)=true)(k3:Nat)(uD:Hid (fO s (k1+1)=k3))(h3:k3<=800)(d3:aP (a0 s k3)=false)(r:Int)(HV:Hid (((k1:Nat):Int)=r)):
  Calls prog 121 #[.string s,.int .i64 (i:Int)] w fun e w'=>e=.returned (.int .i64 r)/\w'=w:=fM
theorem wV(s:ByteArray)(i k0:Nat)(w:World)(hs:s.size<=600)(hi:i<=s.size)(lS:Hid (fO s i=k0))(h0:k0<=700)(d0:aP (a0 s k0)=true)(p0:(a0 s k0==46)=false)(k1:Nat)(l7:Hid (gJ s k0=k1))(h1:k1<=700)(p1:(a0 s k1==46)=true)(q1:aP (a0 s (k1+1))=false)(t1:(a0 s k1==101)=false)(t2:(a0 s k1==69)=false)(r:Int)(HV:Hid (((k1:Nat):Int)=r)):
  Calls prog 121 #[.string s,.int .i64 (i:Int)] w fun e w'=>e=.returned (.int .i64 r)/\w'=w:=fM
theorem zV(s:ByteArray)(i k0:Nat)(w:World)(hs:s.size<=600)(hi:i<=s.size)(lS:Hid (fO s i=k0))(h0:k0<=700)(d0:aP (a0 s k0)=true)(p0:(a0 s k0==46)=false)(k1:Nat)(l7:Hid (gJ s k0=k1))(h1:k1<=700)(p1:(a0 s k1==46)=true)(q1:aP (a0 s (k1+1))=true)(k2:Nat)(OM:Hid (gJ s (k1+1)=k2))(h2:k2<=700)(t1:(a0 s k2==101)=true)(k3:Nat)(uD:Hid (fO s (k2+1)=k3))(h3:k3<=800)(d3:aP (a0 s k3)=true)(r:Int)(HV:Hid (((gJ s k3:Nat):Int)=r)):
  Calls prog 121 #[.string s,.int .i64 (i:Int)] w fun e w'=>e=.returned (.int .i64 r)/\w'=w:=fM
theorem zW(s:ByteArray)(i k0:Nat)(w:World)(hs:s.size<=600)(hi:i<=s.size)(lS:Hid (fO s i=k0))(h0:k0<=700)(d0:aP (a0 s k0)=true)(p0:(a0 s k0==46)=false)(k1:Nat)(l7:Hid (gJ s k0=k1))(h1:k1<=700)(p1:(a0 s k1==46)=true)(q1:aP (a0 s (k1+1))=true)(k2:Nat)(OM:Hid (gJ s (k1+1)=k2))(h2:k2<=700)(t1:(a0 s k2==101)=true)(k3:Nat)(uD:Hid (fO s (k2+1)=k3))(h3:k3<=800)(d3:aP (a0 s k3)=false)(r:Int)(HV:Hid (((k2:Nat):Int)=r)):
  Calls prog 121 #[.string s,.int .i64 (i:Int)] w fun e w'=>e=.returned (.int .i64 r)/\w'=w:=fM
theorem Bl(s:ByteArray)(i k0:Nat)(w:World)(hs:s.size<=600)(hi:i<=s.size)(lS:Hid (fO s i=k0))(h0:k0<=700)(d0:aP (a0 s k0)=true)(p0:(a0 s k0==46)=false)(k1:Nat)(l7:Hid (gJ s k0=k1))(h1:k1<=700)(p1:(a0 s k1==46)=true)(q1:aP (a0 s (k1+1))=true)(k2:Nat)(OM:Hid (gJ s (k1+1)=k2))(h2:k2<=700)(t1:(a0 s k2==101)=false)(t2:(a0 s k2==69)=true)(k3:Nat)(uD:Hid (fO s (k2+1)=k3))(h3:k3<=800)(d3:aP (a0 s k3)=true)(r:Int)(HV:Hid (((gJ s k3:Nat):Int)=r)):
  Calls prog 121 #[.string s,.int .i64 (i:Int)] w fun e w'=>e=.returned (.int .i64 r)/\w'=w:=fM
theorem Bo(s:ByteArray)(i k0:Nat)(w:World)(hs:s.size<=600)(hi:i<=s.size)(lS:Hid (fO s i=k0))(h0:k0<=700)(d0:aP (a0 s k0)=true)(p0:(a0 s k0==46)=false)(k1:Nat)(l7:Hid (gJ s k0=k1))(h1:k1<=700)(p1:(a0 s k1==46)=true)(q1:aP (a0 s (k1+1))=true)(k2:Nat)(OM:Hid (gJ s (k1+1)=k2))(h2:k2<=700)(t1:(a0 s k2==101)=false)(t2:(a0 s k2==69)=true)(k3:Nat)(uD:Hid (fO s (k2+1)=k3))(h3:k3<=800)(d3:aP (a0 s k3)=false)(r:Int)(HV:Hid (((k2:Nat):Int)=r)):
  Calls prog 121 #[.string s,.int .i64 (i:Int)] w fun e w'=>e=.returned (.int .i64 r)/\w'=w:=fM
theorem zX(s:ByteArray)(i k0:Nat)(w:World)(hs:s.size<=600)(hi:i<=s.size)(lS:Hid (fO s i=k0))(h0:k0<=700)(d0:aP (a0 s k0)=true)(p0:(a0 s k0==46)=false)(k1:Nat)(l7:Hid (gJ s k0=k1))(h1:k1<=700)(p1:(a0 s k1==46)=true)(q1:aP (a0 s (k1+1))=true)(k2:Nat)(OM:Hid (gJ s (k1+1)=k2))(h2:k2<=700)(t1:(a0 s k2==101)=false)(t2:(a0 s k2==69)=false)(r:Int)(HV:Hid (((k2:Nat):Int)=r)):
  Calls prog 121 #[.string s,.int .i64 (i:Int)] w fun e w'=>e=.returned (.int .i64 r)/\w'=w:=fM
theorem wW(s:ByteArray)(i k0:Nat)(w:World)(hs:s.size<=600)(hi:i<=s.size)(lS:Hid (fO s i=k0))(h0:k0<=700)(d0:aP (a0 s k0)=false)(p0:(a0 s k0==46)=true)(q0:aP (a0 s (k0+1))=true)(k1:Nat)(l7:Hid (gJ s k0=k1))(h1:k1<=700)(p1:(a0 s k1==46)=false)(t1:(a0 s k1==101)=true)(k3:Nat)(uD:Hid (fO s (k1+1)=k3))(h3:k3<=800)(d3:aP (a0 s k3)=true)(r:Int)(HV:Hid (((gJ s k3:Nat):Int)=r)):
  Calls prog 121 #[.string s,.int .i64 (i:Int)] w fun e w'=>e=.returned (.int .i64 r)/\w'=w:=fM
theorem wX(s:ByteArray)(i k0:Nat)(w:World)(hs:s.size<=600)(hi:i<=s.size)(lS:Hid (fO s i=k0))(h0:k0<=700)(d0:aP (a0 s k0)=false)(p0:(a0 s k0==46)=true)(q0:aP (a0 s (k0+1))=true)(k1:Nat)(l7:Hid (gJ s k0=k1))(h1:k1<=700)(p1:(a0 s k1==46)=false)(t1:(a0 s k1==101)=true)(k3:Nat)(uD:Hid (fO s (k1+1)=k3))(h3:k3<=800)(d3:aP (a0 s k3)=false)(r:Int)(HV:Hid (((k1:Nat):Int)=r)):
  Calls prog 121 #[.string s,.int .i64 (i:Int)] w fun e w'=>e=.returned (.int .i64 r)/\w'=w:=fM
theorem yB(s:ByteArray)(i k0:Nat)(w:World)(hs:s.size<=600)(hi:i<=s.size)(lS:Hid (fO s i=k0))(h0:k0<=700)(d0:aP (a0 s k0)=false)(p0:(a0 s k0==46)=true)(q0:aP (a0 s (k0+1))=true)(k1:Nat)(l7:Hid (gJ s k0=k1))(h1:k1<=700)(p1:(a0 s k1==46)=false)(t1:(a0 s k1==101)=false)(t2:(a0 s k1==69)=true)(k3:Nat)(uD:Hid (fO s (k1+1)=k3))(h3:k3<=800)(d3:aP (a0 s k3)=true)(r:Int)(HV:Hid (((gJ s k3:Nat):Int)=r)):
  Calls prog 121 #[.string s,.int .i64 (i:Int)] w fun e w'=>e=.returned (.int .i64 r)/\w'=w:=fM
theorem yC(s:ByteArray)(i k0:Nat)(w:World)(hs:s.size<=600)(hi:i<=s.size)(lS:Hid (fO s i=k0))(h0:k0<=700)(d0:aP (a0 s k0)=false)(p0:(a0 s k0==46)=true)(q0:aP (a0 s (k0+1))=true)(k1:Nat)(l7:Hid (gJ s k0=k1))(h1:k1<=700)(p1:(a0 s k1==46)=false)(t1:(a0 s k1==101)=false)(t2:(a0 s k1==69)=true)(k3:Nat)(uD:Hid (fO s (k1+1)=k3))(h3:k3<=800)(d3:aP (a0 s k3)=false)(r:Int)(HV:Hid (((k1:Nat):Int)=r)):
  Calls prog 121 #[.string s,.int .i64 (i:Int)] w fun e w'=>e=.returned (.int .i64 r)/\w'=w:=fM
theorem wY(s:ByteArray)(i k0:Nat)(w:World)(hs:s.size<=600)(hi:i<=s.size)(lS:Hid (fO s i=k0))(h0:k0<=700)(d0:aP (a0 s k0)=false)(p0:(a0 s k0==46)=true)(q0:aP (a0 s (k0+1))=true)(k1:Nat)(l7:Hid (gJ s k0=k1))(h1:k1<=700)(p1:(a0 s k1==46)=false)(t1:(a0 s k1==101)=false)(t2:(a0 s k1==69)=false)(r:Int)(HV:Hid (((k1:Nat):Int)=r)):
  Calls prog 121 #[.string s,.int .i64 (i:Int)] w fun e w'=>e=.returned (.int .i64 r)/\w'=w:=fM
theorem wZ(s:ByteArray)(i k0:Nat)(w:World)(hs:s.size<=600)(hi:i<=s.size)(lS:Hid (fO s i=k0))(h0:k0<=700)(d0:aP (a0 s k0)=false)(p0:(a0 s k0==46)=true)(q0:aP (a0 s (k0+1))=true)(k1:Nat)(l7:Hid (gJ s k0=k1))(h1:k1<=700)(p1:(a0 s k1==46)=true)(q1:aP (a0 s (k1+1))=false)(t1:(a0 s k1==101)=true)(k3:Nat)(uD:Hid (fO s (k1+1)=k3))(h3:k3<=800)(d3:aP (a0 s k3)=true)(r:Int)(HV:Hid (((gJ s k3:Nat):Int)=r)):
  Calls prog 121 #[.string s,.int .i64 (i:Int)] w fun e w'=>e=.returned (.int .i64 r)/\w'=w:=fM
theorem xg(s:ByteArray)(i k0:Nat)(w:World)(hs:s.size<=600)(hi:i<=s.size)(lS:Hid (fO s i=k0))(h0:k0<=700)(d0:aP (a0 s k0)=false)(p0:(a0 s k0==46)=true)(q0:aP (a0 s (k0+1))=true)(k1:Nat)(l7:Hid (gJ s k0=k1))(h1:k1<=700)(p1:(a0 s k1==46)=true)(q1:aP (a0 s (k1+1))=false)(t1:(a0 s k1==101)=true)(k3:Nat)(uD:Hid (fO s (k1+1)=k3))(h3:k3<=800)(d3:aP (a0 s k3)=false)(r:Int)(HV:Hid (((k1:Nat):Int)=r)):
  Calls prog 121 #[.string s,.int .i64 (i:Int)] w fun e w'=>e=.returned (.int .i64 r)/\w'=w:=fM
theorem yD(s:ByteArray)(i k0:Nat)(w:World)(hs:s.size<=600)(hi:i<=s.size)(lS:Hid (fO s i=k0))(h0:k0<=700)(d0:aP (a0 s k0)=false)(p0:(a0 s k0==46)=true)(q0:aP (a0 s (k0+1))=true)(k1:Nat)(l7:Hid (gJ s k0=k1))(h1:k1<=700)(p1:(a0 s k1==46)=true)(q1:aP (a0 s (k1+1))=false)(t1:(a0 s k1==101)=false)(t2:(a0 s k1==69)=true)(k3:Nat)(uD:Hid (fO s (k1+1)=k3))(h3:k3<=800)(d3:aP (a0 s k3)=true)(r:Int)(HV:Hid (((gJ s k3:Nat):Int)=r)):
  Calls prog 121 #[.string s,.int .i64 (i:Int)] w fun e w'=>e=.returned (.int .i64 r)/\w'=w:=fM
theorem yE(s:ByteArray)(i k0:Nat)(w:World)(hs:s.size<=600)(hi:i<=s.size)(lS:Hid (fO s i=k0))(h0:k0<=700)(d0:aP (a0 s k0)=false)(p0:(a0 s k0==46)=true)(q0:aP (a0 s (k0+1))=true)(k1:Nat)(l7:Hid (gJ s k0=k1))(h1:k1<=700)(p1:(a0 s k1==46)=true)(q1:aP (a0 s (k1+1))=false)(t1:(a0 s k1==101)=false)(t2:(a0 s k1==69)=true)(k3:Nat)(uD:Hid (fO s (k1+1)=k3))(h3:k3<=800)(d3:aP (a0 s k3)=false)(r:Int)(HV:Hid (((k1:Nat):Int)=r)):
  Calls prog 121 #[.string s,.int .i64 (i:Int)] w fun e w'=>e=.returned (.int .i64 r)/\w'=w:=fM
theorem xk(s:ByteArray)(i k0:Nat)(w:World)(hs:s.size<=600)(hi:i<=s.size)(lS:Hid (fO s i=k0))(h0:k0<=700)(d0:aP (a0 s k0)=false)(p0:(a0 s k0==46)=true)(q0:aP (a0 s (k0+1))=true)(k1:Nat)(l7:Hid (gJ s k0=k1))(h1:k1<=700)(p1:(a0 s k1==46)=true)(q1:aP (a0 s (k1+1))=false)(t1:(a0 s k1==101)=false)(t2:(a0 s k1==69)=false)(r:Int)(HV:Hid (((k1:Nat):Int)=r)):
  Calls prog 121 #[.string s,.int .i64 (i:Int)] w fun e w'=>e=.returned (.int .i64 r)/\w'=w:=fM
theorem zY(s:ByteArray)(i k0:Nat)(w:World)(hs:s.size<=600)(hi:i<=s.size)(lS:Hid (fO s i=k0))(h0:k0<=700)(d0:aP (a0 s k0)=false)(p0:(a0 s k0==46)=true)(q0:aP (a0 s (k0+1))=true)(k1:Nat)(l7:Hid (gJ s k0=k1))(h1:k1<=700)(p1:(a0 s k1==46)=true)(q1:aP (a0 s (k1+1))=true)(k2:Nat)(OM:Hid (gJ s (k1+1)=k2))(h2:k2<=700)(t1:(a0 s k2==101)=true)(k3:Nat)(uD:Hid (fO s (k2+1)=k3))(h3:k3<=800)(d3:aP (a0 s k3)=true)(r:Int)(HV:Hid (((gJ s k3:Nat):Int)=r)):
  Calls prog 121 #[.string s,.int .i64 (i:Int)] w fun e w'=>e=.returned (.int .i64 r)/\w'=w:=fM
theorem zZ(s:ByteArray)(i k0:Nat)(w:World)(hs:s.size<=600)(hi:i<=s.size)(lS:Hid (fO s i=k0))(h0:k0<=700)(d0:aP (a0 s k0)=false)(p0:(a0 s k0==46)=true)(q0:aP (a0 s (k0+1))=true)(k1:Nat)(l7:Hid (gJ s k0=k1))(h1:k1<=700)(p1:(a0 s k1==46)=true)(q1:aP (a0 s (k1+1))=true)(k2:Nat)(OM:Hid (gJ s (k1+1)=k2))(h2:k2<=700)(t1:(a0 s k2==101)=true)(k3:Nat)(uD:Hid (fO s (k2+1)=k3))(h3:k3<=800)(d3:aP (a0 s k3)=false)(r:Int)(HV:Hid (((k2:Nat):Int)=r)):
  Calls prog 121 #[.string s,.int .i64 (i:Int)] w fun e w'=>e=.returned (.int .i64 r)/\w'=w:=fM
theorem Bv(s:ByteArray)(i k0:Nat)(w:World)(hs:s.size<=600)(hi:i<=s.size)(lS:Hid (fO s i=k0))(h0:k0<=700)(d0:aP (a0 s k0)=false)(p0:(a0 s k0==46)=true)(q0:aP (a0 s (k0+1))=true)(k1:Nat)(l7:Hid (gJ s k0=k1))(h1:k1<=700)(p1:(a0 s k1==46)=true)(q1:aP (a0 s (k1+1))=true)(k2:Nat)(OM:Hid (gJ s (k1+1)=k2))(h2:k2<=700)(t1:(a0 s k2==101)=false)(t2:(a0 s k2==69)=true)(k3:Nat)(uD:Hid (fO s (k2+1)=k3))(h3:k3<=800)(d3:aP (a0 s k3)=true)(r:Int)(HV:Hid (((gJ s k3:Nat):Int)=r)):
  Calls prog 121 #[.string s,.int .i64 (i:Int)] w fun e w'=>e=.returned (.int .i64 r)/\w'=w:=fM
theorem Bz(s:ByteArray)(i k0:Nat)(w:World)(hs:s.size<=600)(hi:i<=s.size)(lS:Hid (fO s i=k0))(h0:k0<=700)(d0:aP (a0 s k0)=false)(p0:(a0 s k0==46)=true)(q0:aP (a0 s (k0+1))=true)(k1:Nat)(l7:Hid (gJ s k0=k1))(h1:k1<=700)(p1:(a0 s k1==46)=true)(q1:aP (a0 s (k1+1))=true)(k2:Nat)(OM:Hid (gJ s (k1+1)=k2))(h2:k2<=700)(t1:(a0 s k2==101)=false)(t2:(a0 s k2==69)=true)(k3:Nat)(uD:Hid (fO s (k2+1)=k3))(h3:k3<=800)(d3:aP (a0 s k3)=false)(r:Int)(HV:Hid (((k2:Nat):Int)=r)):
  Calls prog 121 #[.string s,.int .i64 (i:Int)] w fun e w'=>e=.returned (.int .i64 r)/\w'=w:=fM
theorem Aa(s:ByteArray)(i k0:Nat)(w:World)(hs:s.size<=600)(hi:i<=s.size)(lS:Hid (fO s i=k0))(h0:k0<=700)(d0:aP (a0 s k0)=false)(p0:(a0 s k0==46)=true)(q0:aP (a0 s (k0+1))=true)(k1:Nat)(l7:Hid (gJ s k0=k1))(h1:k1<=700)(p1:(a0 s k1==46)=true)(q1:aP (a0 s (k1+1))=true)(k2:Nat)(OM:Hid (gJ s (k1+1)=k2))(h2:k2<=700)(t1:(a0 s k2==101)=false)(t2:(a0 s k2==69)=false)(r:Int)(HV:Hid (((k2:Nat):Int)=r)):
  Calls prog 121 #[.string s,.int .i64 (i:Int)] w fun e w'=>e=.returned (.int .i64 r)/\w'=w:=fM
theorem LP(s:ByteArray)(i:Int)(k:Nat)(w:World)(hi:i=k)(hs:s.size<=600)(hk:k<=s.size):
  Calls prog 121 #[.string s,.int .i64 i] w fun e w'=>e=.returned (.int .i64 ((if fV s k=true then dL s k else k:Nat):Int))/\w'=w:=by
 subst hi;obtain⟨k0,lS⟩:∃k0,Hid (fO s k=k0):=⟨_,rfl⟩;have h0:k0<=s.size:=by rw[<-lS.o];exact U7 hk
 obtain⟨k1,l7⟩:∃k1,Hid (gJ s k0=k1):=⟨_,rfl⟩;have h1:k1<=s.size:=by rw[<-l7.o];exact uI h0
 have hN:dL s k=iQ s (lM s k1):=by unfold dL;rw[lS.o,l7.o]
 have hB:fV s k=(aP (a0 s k0)||(a0 s k0==46&&aP (a0 s (k0+1)))):=by unfold fV;rw[lS.o,qL,qL,jP s k0 46 oo]
 have dot:(a0 s k0==46)=true->aP (a0 s k0)=false:=fun h=>by
  have e:a0 s k0=46:=by simpa using h
  rw[e];rfl
 have G7:∀(p1:(a0 s k1==46)=false),lM s k1=k1:=fun p1=>by rw[jP s k1 46 oo]at p1;unfold lM;rw[if_neg (fun h=>by simp[h.1]at p1)]
 have xK:∀(q1:aP (a0 s (k1+1))=false),lM s k1=k1:=fun q1=>by rw[qL]at q1;unfold lM;rw[if_neg (fun h=>by simp[h.2]at q1)]
 have xM:(a0 s k1==46)=true->aP (a0 s (k1+1))=true->lM s k1=gJ s (k1+1):=fun p1 q1=>by rw[jP s k1 46 oo]at p1;rw[qL]at q1;unfold lM;rw[if_pos ⟨by simpa using p1,q1⟩]
 have ex0:∀j,(a0 s j==101)=false->(a0 s j==69)=false->iQ s j=j:=fun j t1 t2=>by rw[jP s j 101 oo]at t1;rw[jP s j 69 oo]at t2;unfold iQ;rw[if_neg (fun h=>by rcases h with h|h<;>simp[h]at t1 t2)]
 have UO:∀j,((a0 s j==101)=true\/(a0 s j==69)=true)->aP (a0 s (fO s (j+1)))=true->iQ s j=gJ s (fO s (j+1)):=fun j t d=>by rw[jP s j 101 oo,jP s j 69 oo]at t;rw[qL]at d;unfold iQ;rw[if_pos (by simpa using t),if_pos d]
 have UQ:∀j,((a0 s j==101)=true\/(a0 s j==69)=true)->aP (a0 s (fO s (j+1)))=false->iQ s j=j:=fun j t d=>by rw[jP s j 101 oo,jP s j 69 oo]at t;rw[qL]at d;unfold iQ;rw[if_pos (by simpa using t),if_neg (by simp[d])]
 cases d0:aP (a0 s k0)
 .cases p0:(a0 s k0==46)
  .rw[if_neg (by rw[hB,d0,p0];simp)];exact Tv s k k0 w hs hk lS oo d0 p0 _ rfl
  .cases q0:aP (a0 s (k0+1))
   .rw[if_neg (by rw[hB,d0,p0,q0];simp)];exact O8 s k k0 w hs hk lS oo d0 p0 q0 _ rfl
   .rw[if_pos (by rw[hB,d0,p0,q0];simp),hN];cases p1:(a0 s k1==46)
    .cases t1:(a0 s k1==101)
     .cases t2:(a0 s k1==69)
      .exact wY s k k0 w hs hk lS oo d0 p0 q0 k1 l7 oo p1 t1 t2 _ (by show _=_;rw[G7 p1,ex0 _ t1 t2])
      .cases d3:aP (a0 s (fO s (k1+1)))
       .exact yC s k k0 w hs hk lS oo d0 p0 q0 k1 l7 oo p1 t1 t2 _ rfl (by have:=gK s (k1+1);omega) d3 _ (by show _=_;rw[G7 p1,UQ _ (.inr t2) d3])
       .exact yB s k k0 w hs hk lS oo d0 p0 q0 k1 l7 oo p1 t1 t2 _ rfl (by have:=gK s (k1+1);omega) d3 _ (by show _=_;rw[G7 p1,UO _ (.inr t2) d3])
     .cases d3:aP (a0 s (fO s (k1+1)))
      .exact wX s k k0 w hs hk lS oo d0 p0 q0 k1 l7 oo p1 t1 _ rfl (by have:=gK s (k1+1);omega) d3 _ (by show _=_;rw[G7 p1,UQ _ (.inl t1) d3])
      .exact wW s k k0 w hs hk lS oo d0 p0 q0 k1 l7 oo p1 t1 _ rfl (by have:=gK s (k1+1);omega) d3 _ (by show _=_;rw[G7 p1,UO _ (.inl t1) d3])
    .cases q1:aP (a0 s (k1+1))
     .cases t1:(a0 s k1==101)
      .cases t2:(a0 s k1==69)
       .exact xk s k k0 w hs hk lS oo d0 p0 q0 k1 l7 oo p1 q1 t1 t2 _ (by show _=_;rw[xK q1,ex0 _ t1 t2])
       .cases d3:aP (a0 s (fO s (k1+1)))
        .exact yE s k k0 w hs hk lS oo d0 p0 q0 k1 l7 oo p1 q1 t1 t2 _ rfl (by have:=gK s (k1+1);omega) d3 _ (by show _=_;rw[xK q1,UQ _ (.inr t2) d3])
        .exact yD s k k0 w hs hk lS oo d0 p0 q0 k1 l7 oo p1 q1 t1 t2 _ rfl (by have:=gK s (k1+1);omega) d3 _ (by show _=_;rw[xK q1,UO _ (.inr t2) d3])
      .cases d3:aP (a0 s (fO s (k1+1)))
       .exact xg s k k0 w hs hk lS oo d0 p0 q0 k1 l7 oo p1 q1 t1 _ rfl (by have:=gK s (k1+1);omega) d3 _ (by show _=_;rw[xK q1,UQ _ (.inl t1) d3])
       .exact wZ s k k0 w hs hk lS oo d0 p0 q0 k1 l7 oo p1 q1 t1 _ rfl (by have:=gK s (k1+1);omega) d3 _ (by show _=_;rw[xK q1,UO _ (.inl t1) d3])
     .have h2:gJ s (k1+1)<=s.size:=uI (by rw[qL]at q1;have:=dX (s:=s) (i:=k1+1) (by have:=kR q1;omega);omega);cases t1:(a0 s (gJ s (k1+1))==101)
      .cases t2:(a0 s (gJ s (k1+1))==69)
       .exact Aa s k k0 w hs hk lS oo d0 p0 q0 k1 l7 oo p1 q1 _ rfl oo t1 t2 _ (by show _=_;rw[xM p1 q1,ex0 _ t1 t2])
       .cases d3:aP (a0 s (fO s ((gJ s (k1+1))+1)))
        .exact Bz s k k0 w hs hk lS oo d0 p0 q0 k1 l7 oo p1 q1 _ rfl oo t1 t2 _ rfl (by have:=gK s ((gJ s (k1+1))+1);omega) d3 _ (by show _=_;rw[xM p1 q1,UQ _ (.inr t2) d3])
        .exact Bv s k k0 w hs hk lS oo d0 p0 q0 k1 l7 oo p1 q1 _ rfl oo t1 t2 _ rfl (by have:=gK s ((gJ s (k1+1))+1);omega) d3 _ (by show _=_;rw[xM p1 q1,UO _ (.inr t2) d3])
      .cases d3:aP (a0 s (fO s ((gJ s (k1+1))+1)))
       .exact zZ s k k0 w hs hk lS oo d0 p0 q0 k1 l7 oo p1 q1 _ rfl oo t1 _ rfl (by have:=gK s ((gJ s (k1+1))+1);omega) d3 _ (by show _=_;rw[xM p1 q1,UQ _ (.inl t1) d3])
       .exact zY s k k0 w hs hk lS oo d0 p0 q0 k1 l7 oo p1 q1 _ rfl oo t1 _ rfl (by have:=gK s ((gJ s (k1+1))+1);omega) d3 _ (by show _=_;rw[xM p1 q1,UO _ (.inl t1) d3])
 .have p0:(a0 s k0==46)=false:=by
   cases h:(a0 s k0==46)
   .rfl
   .rw[dot h]at d0;cases d0
  rw[if_pos (by rw[hB,d0];simp),hN];cases p1:(a0 s k1==46)
  .cases t1:(a0 s k1==101)
   .cases t2:(a0 s k1==69)
    .exact wR s k k0 w hs hk lS oo d0 p0 k1 l7 oo p1 t1 t2 _ (by show _=_;rw[G7 p1,ex0 _ t1 t2])
    .cases d3:aP (a0 s (fO s (k1+1)))
     .exact yw s k k0 w hs hk lS oo d0 p0 k1 l7 oo p1 t1 t2 _ rfl (by have:=gK s (k1+1);omega) d3 _ (by show _=_;rw[G7 p1,UQ _ (.inr t2) d3])
     .exact yu s k k0 w hs hk lS oo d0 p0 k1 l7 oo p1 t1 t2 _ rfl (by have:=gK s (k1+1);omega) d3 _ (by show _=_;rw[G7 p1,UO _ (.inr t2) d3])
   .cases d3:aP (a0 s (fO s (k1+1)))
    .exact wQ s k k0 w hs hk lS oo d0 p0 k1 l7 oo p1 t1 _ rfl (by have:=gK s (k1+1);omega) d3 _ (by show _=_;rw[G7 p1,UQ _ (.inl t1) d3])
    .exact wP s k k0 w hs hk lS oo d0 p0 k1 l7 oo p1 t1 _ rfl (by have:=gK s (k1+1);omega) d3 _ (by show _=_;rw[G7 p1,UO _ (.inl t1) d3])
  .cases q1:aP (a0 s (k1+1))
   .cases t1:(a0 s k1==101)
    .cases t2:(a0 s k1==69)
     .exact wV s k k0 w hs hk lS oo d0 p0 k1 l7 oo p1 q1 t1 t2 _ (by show _=_;rw[xK q1,ex0 _ t1 t2])
     .cases d3:aP (a0 s (fO s (k1+1)))
      .exact yA s k k0 w hs hk lS oo d0 p0 k1 l7 oo p1 q1 t1 t2 _ rfl (by have:=gK s (k1+1);omega) d3 _ (by show _=_;rw[xK q1,UQ _ (.inr t2) d3])
      .exact yx s k k0 w hs hk lS oo d0 p0 k1 l7 oo p1 q1 t1 t2 _ rfl (by have:=gK s (k1+1);omega) d3 _ (by show _=_;rw[xK q1,UO _ (.inr t2) d3])
    .cases d3:aP (a0 s (fO s (k1+1)))
     .exact wU s k k0 w hs hk lS oo d0 p0 k1 l7 oo p1 q1 t1 _ rfl (by have:=gK s (k1+1);omega) d3 _ (by show _=_;rw[xK q1,UQ _ (.inl t1) d3])
     .exact wS s k k0 w hs hk lS oo d0 p0 k1 l7 oo p1 q1 t1 _ rfl (by have:=gK s (k1+1);omega) d3 _ (by show _=_;rw[xK q1,UO _ (.inl t1) d3])
   .have h2:gJ s (k1+1)<=s.size:=uI (by rw[qL]at q1;have:=dX (s:=s) (i:=k1+1) (by have:=kR q1;omega);omega);cases t1:(a0 s (gJ s (k1+1))==101)
    .cases t2:(a0 s (gJ s (k1+1))==69)
     .exact zX s k k0 w hs hk lS oo d0 p0 k1 l7 oo p1 q1 _ rfl oo t1 t2 _ (by show _=_;rw[xM p1 q1,ex0 _ t1 t2])
     .cases d3:aP (a0 s (fO s ((gJ s (k1+1))+1)))
      .exact Bo s k k0 w hs hk lS oo d0 p0 k1 l7 oo p1 q1 _ rfl oo t1 t2 _ rfl (by have:=gK s ((gJ s (k1+1))+1);omega) d3 _ (by show _=_;rw[xM p1 q1,UQ _ (.inr t2) d3])
      .exact Bl s k k0 w hs hk lS oo d0 p0 k1 l7 oo p1 q1 _ rfl oo t1 t2 _ rfl (by have:=gK s ((gJ s (k1+1))+1);omega) d3 _ (by show _=_;rw[xM p1 q1,UO _ (.inr t2) d3])
    .cases d3:aP (a0 s (fO s ((gJ s (k1+1))+1)))
     .exact zW s k k0 w hs hk lS oo d0 p0 k1 l7 oo p1 q1 _ rfl oo t1 _ rfl (by have:=gK s ((gJ s (k1+1))+1);omega) d3 _ (by show _=_;rw[xM p1 q1,UQ _ (.inl t1) d3])
     .exact zV s k k0 w hs hk lS oo d0 p0 k1 l7 oo p1 q1 _ rfl oo t1 _ rfl (by have:=gK s ((gJ s (k1+1))+1);omega) d3 _ (by show _=_;rw[xM p1 q1,UO _ (.inl t1) d3])
theorem LQ(s:ByteArray)(i:Int)(k:Nat)(q:Int)(w:World)(hi:i=k)(hs:s.size<=600)(hk:k<=s.size):
  Calls prog 127 #[.string s,.int .i64 i,.int .u8 q] w fun e w'=>e=.returned (.tuple #[aF (txt s q k).1,.int .i64 ((txt s q k).2:Int)])/\Below w.heap.size w w':=by
 subst hi;have W0:=RW.nh w;go_in;go_wp2_with fail;go_loopg[1,8] s.size (fun g v1 v8 wr=>∃(j:Nat) (acc:ByteArray),s.size<=j+g/\j<=s.size/\acc.size<=j/\v1=.int .i64 (j:Int)/\v8=.string acc/\Aside (lT s q g j acc=txt s q k/\RW w wr));case atStart=>exact⟨k,ByteArray.empty,oo,hk,by simp,rfl,rfl,rfl,W0.o⟩
 case round=>
  obtain⟨j,acc,hj,hj2,hac,rfl,rfl,hA⟩:=hrel;have H1:Hid (lT s q gk j acc=txt s q k):=hA.o.1;have HW:Hid (RW w wr):=hA.o.2;clear hA W0;have RR:Hid (fF wr w.heap.size):=HW.o.2;by_cases hlt:j<s.size
  .have h1:(j:Int)<(s.size:Int):=oo;have hix:=aV s j hlt;obtain⟨f,rfl⟩:∃f,gk=f+1:=⟨gk-1,oo⟩;have dW:=H1.o;unfold lT at dW;rw[if_neg oo]at dW;by_cases hq:pk s j=q
   .have e1:(pk s j==q)=true:=by simpa using hq
    rw[if_pos hq]at dW;have HV:Hid (txt s q k=(Tok.w 2 acc,j+1)):=dW.symm;clear hq dW;have r0:=RR.o.c0;have r1:=RR.o.c1;have r2:=RR.o.c2;have rf:=RR.o.f;have rl:=RR.o.lt;go_wp2_with fail;refine aN (aU s _ j _ oo oo oo) ?_;go_wp2_with fail;refine bodyPost_ret (v:=.tuple #[aF (Tok.w 2 acc),.int .i64 ((j:Int)+1)]) (by simp[results,Tryz.results127,go_sem,aF,Tok.w,r0,r1,r2];rfl) rfl ⟨?_,HW.o.jr _ _ _⟩;rw[HV.o];rfl
   .have e1:(pk s j==q)=false:=by simpa using hq
    rw[if_neg hq]at dW;by_cases h10:pk s j=10
    .have e2:(pk s j==10)=true:=by rw[h10];rfl
     rw[if_pos h10]at dW;have HV:Hid (txt s q k=(Tok.k 3,j)):=dW.symm;clear hq h10 dW;have r0:=RR.o.c0;have r1:=RR.o.c1;have r2:=RR.o.c2;have rf:=RR.o.f;have rl:=RR.o.lt;go_wp2_with fail;refine aN (aU s _ j _ oo oo oo) ?_;go_wp2_with fail;refine bodyPost_ret (v:=.tuple #[aF (Tok.k 3),.int .i64 ((j:Int))]) (by simp[results,Tryz.results127,go_sem,aF,Tok.k,r0,r1,r2];rfl) rfl ⟨?_,HW.o.jr _ _ _⟩;rw[HV.o]
    .have e2:(pk s j==10)=false:=by simpa using h10
     rw[if_neg h10]at dW;by_cases wM:pk s j=92
     .have e3:(pk s j==92)=true:=by rw[wM];rfl
      rw[if_pos wM]at dW;by_cases hl1:s.size<=j+1
      .rw[if_pos hl1]at dW;have e4:((j:Int)+1==(s.size:Int))=true:=by simp;omega
       have HV:Hid (lT s q f (j+1) acc=txt s q k):=dW;clear hq h10 wM dW RR;go_wp2_with fail;refine aN (aU s _ j _ oo oo oo) ?_;go_wp2_with fail;go_roundg f;case measure=>omega
       case rel=>exact⟨j+1,acc,oo,oo,oo,by congr 1,rfl,HV.o,HW.o⟩
      .rw[if_neg hl1]at dW;have e4:((j:Int)+1==(s.size:Int))=false:=by simp;omega
       have hix2:∀w:World,(Instr.index 9 (.string s) (.int .i64 ((j:Int)+1))).run prog w=.ok (.int .u8 (pk s (j+1))) w:=fun w=>aV s (j+1) oo w;by_cases hln:pk s (j+1)=10
       .have e5:(pk s (j+1)==10)=true:=by rw[hln];rfl
        rw[if_pos hln]at dW;have HV:Hid (lT s q f (j+2) acc=txt s q k):=dW;clear hq h10 wM dW hln RR;go_wp2_with fail;refine aN (aU s _ j _ oo oo oo) ?_;go_wp2_with fail;go_roundg f;case measure=>omega
        case rel=>exact⟨j+2,acc,oo,oo,oo,by congr 1,rfl,HV.o,HW.o⟩
       .have e5:(pk s (j+1)==10)=false:=by simpa using hln
        rw[if_neg hln]at dW;have he:jq s j=true:=by simp[jq,wM,hln]
        have hge:=og hlt;have hgt:=nG s j;obtain⟨x,p,HX⟩:∃x p,Hid (esc s j=(x,p)):=⟨_,_,rfl⟩;have hxs:x.size<=1:=by have:=kZ (s:=s) (i:=j);rw[HX.o]at this;exact Nat.le_of_eq this
        rw[HX.o]at dW hge hgt;have HV:Hid (lT s q f p (acc++x)=txt s q k):=dW;clear hq h10 wM dW hln RR;go_wp2_with fail;refine aN (aU s _ j _ oo oo oo) ?_;go_wp2_with fail;refine(zK s _ j _ oo oo oo).mono ?_;rw[HX.o];rintro e w1 ⟨rfl,hb⟩;have HW1:Hid (RW w w1):=HW.o.below hb;clear hb;go_wp2_with fail;go_roundg f;case measure=>omega
        case rel=>exact⟨p,acc++x,oo,oo,by simp;omega,rfl,rfl,HV.o,HW1.o⟩
     .have e3:(pk s j==92)=false:=by simpa using wM
      rw[if_neg wM]at dW;have he:jq s j=false:=by simp[jq,e3]
      have hsl:=oV s j hlt;have hsz:(one s j).size<=1:=by rw[iE hlt];omega
      have HV:Hid (lT s q f (j+1) (acc++one s j)=txt s q k):=dW;clear hq h10 wM dW RR;go_wp2_with fail;refine aN (aU s _ j _ oo oo oo) ?_;go_wp2_with fail;go_roundg f;case measure=>omega
      case rel=>exact⟨j+1,acc++one s j,oo,oo,by simp;omega,by congr 1,rfl,HV.o,HW.o⟩
  .have h1:(s.size:Int)<=(j:Int):=oo;have HV:Hid (txt s q k=(Tok.w 2 acc,j)):=by
    show _=_;rw[<-H1.o];cases gk with
    |zero=>rfl
    |succ f=>unfold lT;rw[if_pos oo]
   have r0:=RR.o.c0;have r1:=RR.o.c1;have r2:=RR.o.c2;have rf:=RR.o.f;have rl:=RR.o.lt;go_wp2_with fail;refine bodyPost_ret (v:=.tuple #[aF (Tok.w 2 acc),.int .i64 ((j:Int))]) (by simp[results,Tryz.results127,go_sem,aF,Tok.w,r0,r1,r2];rfl) rfl ⟨?_,HW.o.jr _ _ _⟩;rw[HV.o]
end Go.Proofs.YtlliliddljkbfaaGreatDoor
