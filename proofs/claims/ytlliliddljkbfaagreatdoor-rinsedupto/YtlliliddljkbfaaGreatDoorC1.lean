import Derived.Test.YtlliliddljkbfaaGreatDoorRows
import Derived.WalkKit
import Derived.WalkSpells
import Derived.WalkLawsBesides
namespace Go.Proofs.YtlliliddljkbfaaGreatDoor.Sp
set_option maxHeartbeats 64000000
set_option maxRecDepth 100000
def pk(s:ByteArray)(i:Nat):Int:=if h:i<s.size then(s[i].toNat:Int) else -1
def bJ(c:Int):Bool:=c==10||c==9||c==32
def aP(c:Int):Bool:=decide (48<=c)&&decide (c<=57)
def iY(c:Int):Bool:=(decide (97<=c)&&decide (c<=122))||(decide (65<=c)&&decide (c<=90))||c==95||decide (127<c)
def iD(c:Int):Bool:=iY c||aP c||c==45
def tN(c:Int):Bool:=c==43||c==45
def fU(c:Int):Bool:=c==34||c==39
def qJ(c:Int):Bool:=fU c||c==40||c==92||decide (c<32)||c==127
def nD(c:Int):Int:=if aP c=true then c-48 else if 97<=c/\c<=102 then c-97+10 else if 65<=c/\c<=70 then c-65+10 else -1
def one(s:ByteArray)(i:Nat):ByteArray:=s.extract i (i+1)
def jq(s:ByteArray)(i:Nat):Bool:=pk s i==92&&pk s (i+1) != 10
def jD(s:ByteArray)(i:Nat):Bool:=iD (pk s i)||jq s i
def iq(s:ByteArray)(i:Nat):Bool:=if pk s i=45 then iY (pk s (i+1))||pk s (i+1)==45||jq s (i+1) else iY (pk s i)||jq s i
def nV(s:ByteArray):Nat->Nat->Nat->Nat×Nat
 |0,i,n=>(n,i)
 |f+1,i,n=>if 0<=nD (pk s i) then nV s f (i+1) (n*16+(nD (pk s i)).toNat) else(n,i)
def qB:ByteArray:=⟨#[63]⟩
def xA(n:Nat):ByteArray:=⟨#[UInt8.ofNat n]⟩
def esc(s:ByteArray)(i:Nat):ByteArray×Nat:=
 let r:=nV s 6 (i+1) 0
 if r.2=i+1 then(if i+1<s.size then(one s (i+1),i+2) else(qB,i+1))
 else(if 1<=r.1/\r.1<=255 then xA r.1 else qB,if bJ (pk s r.2)=true then r.2+1 else r.2)
def jI(s:ByteArray):Nat->Nat->ByteArray->ByteArray×Nat
 |0,i,acc=>(acc,i)
 |f+1,i,acc=>
  if iD (pk s i)=true then jI s f (i+1) (acc++one s i)
  else if jq s i=true then jI s f (esc s i).2 (acc++(esc s i).1)
  else(acc,i)
def name(s:ByteArray)(i:Nat):ByteArray×Nat:=jI s s.size i ByteArray.empty
def uq(s:ByteArray):Nat->Nat->Nat
 |0,i=>i
 |f+1,i=>if bJ (pk s i)=true then uq s f (i+1) else i
def blk(s:ByteArray)(i:Nat):Nat:=uq s s.size i
def uw(s:ByteArray):Nat->Nat->Nat
 |0,i=>i
 |f+1,i=>if aP (pk s i)=true then uw s f (i+1) else i
def gJ(s:ByteArray)(i:Nat):Nat:=uw s s.size i
def fO(s:ByteArray)(i:Nat):Nat:=if tN (pk s i)=true then i+1 else i
def fV(s:ByteArray)(i:Nat):Bool:=aP (pk s (fO s i))||(pk s (fO s i)==46&&aP (pk s (fO s i+1)))
def iQ(s:ByteArray)(k:Nat):Nat:=if pk s k=101\/pk s k=69 then(if aP (pk s (fO s (k+1)))=true then gJ s (fO s (k+1)) else k) else k
def lM(s:ByteArray)(k:Nat):Nat:=if pk s k=46/\aP (pk s (k+1))=true then gJ s (k+1) else k
def dL(s:ByteArray)(i:Nat):Nat:=iQ s (lM s (gJ s (fO s i)))
def ku(s:ByteArray):Nat->Nat->Nat
 |0,k=>k
 |f+1,k=>if k<s.size/\¬(pk s k=42/\pk s (k+1)=47) then ku s f (k+1) else k
def star(s:ByteArray)(k:Nat):Nat:=ku s s.size k
def uG(s:ByteArray):Nat->Nat->Nat
 |0,i=>i
 |f+1,i=>if pk s i=47/\pk s (i+1)=42 then(if s.size<=star s (i+2) then s.size else uG s f (star s (i+2)+2)) else i
def com(s:ByteArray)(i:Nat):Nat:=uG s s.size i
structure Tok where
 kind:Int
 word:ByteArray
 unit:ByteArray
def Tok.k(n:Int):Tok:=⟨n,ByteArray.empty,ByteArray.empty⟩
def Tok.w(n:Int)(x:ByteArray):Tok:=⟨n,x,ByteArray.empty⟩
def lT(s:ByteArray)(q:Int):Nat->Nat->ByteArray->Tok×Nat
 |0,i,acc=>(Tok.w 2 acc,i)
 |f+1,i,acc=>
  if s.size<=i then(Tok.w 2 acc,i)
  else if pk s i=q then(Tok.w 2 acc,i+1)
  else if pk s i=10 then(Tok.k 3,i)
  else if pk s i=92 then
   (if s.size<=i+1 then lT s q f (i+1) acc
    else if pk s (i+1)=10 then lT s q f (i+2) acc
    else lT s q f (esc s i).2 (acc++(esc s i).1))
  else lT s q f (i+1) (acc++one s i)
def txt(s:ByteArray)(q:Int)(i:Nat):Tok×Nat:=lT s q s.size i ByteArray.empty
def rX(s:ByteArray):Nat->Nat->Nat
 |0,i=>i
 |f+1,i=>
  if s.size<=i then i
  else if pk s i=41 then i+1
  else if jq s i=true then rX s f (esc s i).2
  else rX s f (i+1)
def bad(s:ByteArray)(i:Nat):Nat:=rX s s.size i
def jy(s:ByteArray):Nat->Nat->ByteArray->Tok×Nat
 |0,i,acc=>(Tok.w 12 acc,i)
 |f+1,i,acc=>
  if s.size<=i then(Tok.w 12 acc,i)
  else if pk s i=41 then(Tok.w 12 acc,i+1)
  else if bJ (pk s i)=true then
   (if s.size<=blk s i then(Tok.w 12 acc,blk s i)
    else if pk s (blk s i)=41 then(Tok.w 12 acc,blk s i+1)
    else(Tok.k 13,bad s (blk s i)))
  else if jq s i=true then jy s f (esc s i).2 (acc++(esc s i).1)
  else if qJ (pk s i)=true then(Tok.k 13,bad s i)
  else jy s f (i+1) (acc++one s i)
def link(s:ByteArray)(i:Nat):Tok×Nat:=jy s s.size i ByteArray.empty
def jF(c:UInt8):UInt8:=if 65<=c/\c<=90 then c+32 else c
def small(s:ByteArray):ByteArray:=⟨(s.data.toList.map jF).toArray⟩
def url:ByteArray:=⟨#[117,114,108]⟩
def numeric(s:ByteArray)(i:Nat):Tok×Nat:=
 let k:=dL s i
 if pk s k=37 then(Tok.w 6 (s.extract i k),k+1)
 else if iq s k=true then(⟨7,s.extract i k,(name s k).1⟩,(name s k).2)
 else(Tok.w 5 (s.extract i k),k)
def named(s:ByteArray)(i:Nat):Tok×Nat:=
 let r:=name s i
 if pk s r.2=40 then
  (if small r.1=url/\fU (pk s (blk s (r.2+1)))=false then link s (blk s (r.2+1))
   else(Tok.w 11 r.1,r.2+1))
 else(Tok.w 14 r.1,r.2)
def jg(s:ByteArray)(i:Nat):Bool:=pk s i==60&&pk s (i+1)==33&&pk s (i+2)==45&&pk s (i+3)==45
def jJ(s:ByteArray)(i:Nat):Bool:=pk s i==45&&pk s (i+1)==45&&pk s (i+2)==62
def token(s:ByteArray)(i:Nat):Tok×Nat:=
 if bJ (pk s i)=true then(Tok.k 1,blk s i)
 else if fU (pk s i)=true then txt s (pk s i) (i+1)
 else if pk s i=35/\jD s (i+1)=true then(Tok.w 4 (name s (i+1)).1,(name s (i+1)).2)
 else if fV s i=true then numeric s i
 else if jg s i=true then(Tok.k 8,i+4)
 else if jJ s i=true then(Tok.k 9,i+3)
 else if pk s i=64/\iq s (i+1)=true then(Tok.w 10 (name s (i+1)).1,(name s (i+1)).2)
 else if iq s i=true then named s i
 else(Tok.w 15 (one s i),i+1)
def tokF(s:ByteArray):Nat->Nat->List Tok
 |0,_=>[]
 |f+1,i=>if s.size<=i then [] else(token s i).1::tokF s f (com s (token s i).2)
def toks(s:ByteArray):List Tok:=tokF s s.size (com s 0)
def U1(s:ByteArray)(i:Nat):List UInt8:=
 if h:i<s.size then
  (if s[i]=13/\pk s (i+1)=10 then [] else if s[i]=13\/s[i]=12 then [10] else if s[i]=0 then [63] else [s[i]])
 else []
def aZ(s:ByteArray):Nat->List UInt8
 |0=>[]
 |k+1=>aZ s k++U1 s k
def clean(s:ByteArray):ByteArray:=⟨(aZ s s.size).toArray⟩
def answer(lN:ByteArray):List Tok×Int:=if 600<lN.size then([],1) else(toks (clean lN),0)
end Go.Proofs.YtlliliddljkbfaaGreatDoor.Sp
namespace Go.Proofs.YtlliliddljkbfaaGreatDoor.Sp
set_option maxHeartbeats 64000000
set_option maxRecDepth 100000
theorem Iy{s:ByteArray}{i:Nat}(h:i<s.size):pk s i=(s[i].toNat:Int):=by unfold pk;rw[dif_pos h]
theorem mO{s:ByteArray}{i:Nat}(h:s.size<=i):pk s i = -1:=by unfold pk;rw[dif_neg (by omega)]
theorem QL(s:ByteArray)(i:Nat): -1<=pk s i:=by unfold pk;split<;>omega
theorem D7(s:ByteArray)(i:Nat):pk s i<=255:=by
 unfold pk;split
 .have:=(s[i]).toNat_lt;omega
 .omega
theorem dX{s:ByteArray}{i:Nat}(h:0<=pk s i):i<s.size:=by
 by_cases h1:i<s.size
 .exact h1
 .rw[mO (by omega)]at h;omega
theorem tV{s:ByteArray}{i:Nat}(h:i<s.size):0<=pk s i:=by rw[Iy h];omega
theorem lY{c:Int}(h:bJ c=true):0<=c:=by simp[bJ]at h;omega
theorem kR{c:Int}(h:aP c=true):48<=c/\c<=57:=by simp[aP]at h;exact h
theorem YE{c:Int}(h:iY c=true):0<=c:=by simp[iY]at h;omega
theorem vU{c:Int}(h:iD c=true):0<=c:=by
 simp only[iD,Bool.or_eq_true,beq_iff_eq]at h;rcases h with (h|h)|h
 .exact YE h
 .have:=kR h;omega
 .omega
theorem QM{c:Int}(h:tN c=true):0<=c:=by simp[tN]at h;omega
theorem OA{c:Int}(h:0<=nD c):0<=c:=by
 unfold nD at h;split at h
 .rename_i h1;have:=kR h1;omega
 .split at h
  .omega
  .split at h<;>omega
theorem OB(c:Int):nD c<=15:=by
 unfold nD;split
 .rename_i h1;have:=kR h1;omega
 .split
  .omega
  .split<;>omega
theorem U2(c:Int): -1<=nD c:=by
 unfold nD;split
 .rename_i h1;have:=kR h1;omega
 .split
  .omega
  .split<;>omega
theorem U3{s:ByteArray}{i:Nat}(h:jq s i=true):pk s i=92/\pk s (i+1)≠10:=by simpa[jq]using h
theorem Jq{s:ByteArray}{i:Nat}(h:jq s i=true):i<s.size:=dX (by have:=(U3 h).1;omega)
theorem iE{s:ByteArray}{i:Nat}(h:i<s.size):(one s i).size=1:=by simp[one];omega
theorem QN(s:ByteArray):∀f i n,i<=(nV s f i n).2
 |0,i,n=>Nat.le_refl _
 |f+1,i,n=>by
  unfold nV;split
  .have:=QN s f (i+1) (n*16+(nD (pk s i)).toNat);omega
  .exact Nat.le_refl _
theorem QO(s:ByteArray):∀f i n,i<=s.size->(nV s f i n).2<=s.size
 |0,i,n,h=>h
 |f+1,i,n,h=>by
  unfold nV;split
  .rename_i h1;exact QO s f (i+1) _ (dX (OA h1))
  .exact h
theorem nG(s:ByteArray)(i:Nat):i<(esc s i).2:=by
 have h:=QN s 6 (i+1) 0;unfold esc;dsimp only
 split
 .split<;>dsimp only<;>omega
 .dsimp only;split<;>omega
theorem og{s:ByteArray}{i:Nat}(hi:i<s.size):(esc s i).2<=s.size:=by
 have h:=QO s 6 (i+1) 0 (by omega);unfold esc;dsimp only
 split
 .split<;>dsimp only<;>omega
 .dsimp only
  split
  .rename_i h1;have:=dX (lY h1);omega
  .exact h
theorem kZ{s:ByteArray}{i:Nat}:(esc s i).1.size=1:=by
 unfold esc;dsimp only
 split
 .split
  .rename_i h;exact iE h
  .rfl
 .dsimp only;split<;>rfl
theorem uH(s:ByteArray):∀f i acc,i<=(jI s f i acc).2
 |0,i,acc=>Nat.le_refl _
 |f+1,i,acc=>by
  unfold jI;split
  .have:=uH s f (i+1) (acc++one s i);omega
  .split
   .have:=uH s f (esc s i).2 (acc++(esc s i).1);have:=nG s i;omega
   .exact Nat.le_refl _
theorem D8(s:ByteArray):∀f i acc,i<=s.size->(jI s f i acc).2<=s.size
 |0,i,acc,h=>h
 |f+1,i,acc,h=>by
  unfold jI;split
  .rename_i h1;exact D8 s f (i+1) _ (dX (vU h1))
  .split
   .rename_i h1;exact D8 s f _ _ (og (Jq h1))
   .exact h
theorem Jr(s:ByteArray)(i:Nat):i<=(name s i).2:=uH _ _ _ _
theorem rY{s:ByteArray}{i:Nat}(h:i<=s.size):(name s i).2<=s.size:=D8 _ _ _ _ h
theorem YF{s:ByteArray}{i:Nat}(h:jD s i=true):i<(name s i).2:=by
 have hl:i<s.size:=by
  simp only[jD,Bool.or_eq_true]at h;rcases h with h|h
  .exact dX (vU h)
  .exact Jq h
 unfold name;obtain⟨f,hf⟩:∃f,s.size=f+1:=⟨s.size-1,by omega⟩;rw[hf];unfold jI;split
 .have:=uH s f (i+1) (ByteArray.empty++one s i);omega
 .split
  .have:=uH s f (esc s i).2 (ByteArray.empty++(esc s i).1);have:=nG s i;omega
  .rename_i h1 h2;simp[jD,h1,h2]at h
theorem y7{s:ByteArray}{i:Nat}(h:iq s i=true):jD s i=true:=by
 unfold iq at h;split at h
 .rename_i h1;simp[jD,iD,h1]
 .simp only[Bool.or_eq_true]at h;rcases h with h|h
  .simp[jD,iD,h]
  .simp[jD,h]
theorem Js(s:ByteArray):∀f i,i<=uq s f i
 |0,i=>Nat.le_refl _
 |f+1,i=>by
  unfold uq;split
  .have:=Js s f (i+1);omega
  .exact Nat.le_refl _
theorem QS(s:ByteArray):∀f i,i<=s.size->uq s f i<=s.size
 |0,i,h=>h
 |f+1,i,h=>by
  unfold uq;split
  .rename_i h1;exact QS s f (i+1) (dX (lY h1))
  .exact h
theorem U4(s:ByteArray)(i:Nat):i<=blk s i:=Js _ _ _
theorem AZ{s:ByteArray}{i:Nat}(h:i<=s.size):blk s i<=s.size:=QS _ _ _ h
theorem U5{s:ByteArray}{i:Nat}(h:bJ (pk s i)=true):i<blk s i:=by have hl:=dX (lY h);unfold blk;obtain⟨f,hf⟩:∃f,s.size=f+1:=⟨s.size-1,by omega⟩;rw[hf];unfold uq;rw[if_pos h];have:=Js s f (i+1);omega
theorem Jt(s:ByteArray):∀f i,i<=uw s f i
 |0,i=>Nat.le_refl _
 |f+1,i=>by
  unfold uw;split
  .have:=Jt s f (i+1);omega
  .exact Nat.le_refl _
theorem QT(s:ByteArray):∀f i,i<=s.size->uw s f i<=s.size
 |0,i,h=>h
 |f+1,i,h=>by
  unfold uw;split
  .rename_i h1;exact QT s f (i+1) (dX (by have:=kR h1;omega))
  .exact h
theorem Ju(s:ByteArray)(i:Nat):i<=gJ s i:=Jt _ _ _
theorem uI{s:ByteArray}{i:Nat}(h:i<=s.size):gJ s i<=s.size:=QT _ _ _ h
theorem aaP{s:ByteArray}{i:Nat}(h:aP (pk s i)=true):i<gJ s i:=by have hl:i<s.size:=dX (by have:=kR h;omega);unfold gJ;obtain⟨f,hf⟩:∃f,s.size=f+1:=⟨s.size-1,by omega⟩;rw[hf];unfold uw;rw[if_pos h];have:=Jt s f (i+1);omega
theorem U6{s:ByteArray}{i:Nat}(h:aP (pk s i)=false):gJ s i=i:=by
 unfold gJ;cases hf:s.size with
 |zero=>rfl
 |succ f=>unfold uw;rw[if_neg (by simp[h])]
theorem OC(s:ByteArray)(i:Nat):i<=fO s i:=by unfold fO;split<;>omega
theorem U7{s:ByteArray}{i:Nat}(h:i<=s.size):fO s i<=s.size:=by
 unfold fO;split
 .rename_i h1;have:=dX (QM h1);omega
 .exact h
theorem gK(s:ByteArray)(i:Nat):fO s i<=i+1:=by unfold fO;split<;>omega
theorem QU(s:ByteArray)(k:Nat):k<=iQ s k:=by
 unfold iQ;split
 .split
  .have:=Ju s (fO s (k+1));have:=OC s (k+1);omega
  .exact Nat.le_refl _
 .exact Nat.le_refl _
theorem YG{s:ByteArray}{k:Nat}(h:k<=s.size):iQ s k<=s.size:=by
 unfold iQ;split
 .split
  .rename_i h2;exact uI (by have:=dX (s:=s) (i:=fO s (k+1)) (by have:=kR h2;omega);omega)
  .exact h
 .exact h
theorem KQ(s:ByteArray)(k:Nat):k<=lM s k:=by
 unfold lM;split
 .have:=Ju s (k+1);omega
 .exact Nat.le_refl _
theorem U8{s:ByteArray}{k:Nat}(h:k<=s.size):lM s k<=s.size:=by
 unfold lM;split
 .rename_i h2;exact uI (by have:=dX (s:=s) (i:=k+1) (by have:=kR h2.2;omega);omega)
 .exact h
theorem y8{s:ByteArray}{i:Nat}(h:i<=s.size):dL s i<=s.size:=YG (U8 (uI (U7 h)))
theorem DT{s:ByteArray}{i:Nat}(h:fV s i=true):i<dL s i:=by
 have h1:=OC s i;have h3:=KQ s (gJ s (fO s i));have h4:=QU s (lM s (gJ s (fO s i)));unfold dL;simp only[fV,Bool.or_eq_true,Bool.and_eq_true,beq_iff_eq]at h;rcases h with h|⟨h,h'⟩
 .have:=aaP h;omega
 .have e:aP (pk s (fO s i))=false:=by rw[h];rfl
  have h5:lM s (fO s i)=gJ s (fO s i+1):=by unfold lM;rw[if_pos ⟨h,h'⟩]
  have:=Ju s (fO s i+1);rw[U6 e]at h3 h4⊢;omega
theorem YH(s:ByteArray)(i:Nat):i<=dL s i:=by have h1:=OC s i;have h2:=Ju s (fO s i);have h3:=KQ s (gJ s (fO s i));have h4:=QU s (lM s (gJ s (fO s i)));unfold dL;omega
theorem y9(s:ByteArray):∀f k,k<=ku s f k
 |0,k=>Nat.le_refl _
 |f+1,k=>by
  unfold ku;split
  .have:=y9 s f (k+1);omega
  .exact Nat.le_refl _
theorem KR(s:ByteArray):∀f k,k<=s.size->ku s f k<=s.size
 |0,k,h=>h
 |f+1,k,h=>by
  unfold ku;split
  .exact KR s f (k+1) (by omega)
  .exact h
theorem DU(s:ByteArray)(k:Nat):k<=star s k:=y9 _ _ _
theorem QV{s:ByteArray}{k:Nat}(h:k<=s.size):star s k<=s.size:=KR _ _ _ h
theorem KT(s:ByteArray):∀f k,s.size<=k+f->ku s f k<s.size->pk s (ku s f k)=42/\pk s (ku s f k+1)=47
 |0,k,h,h'=>by unfold ku at h';omega
 |f+1,k,h,h'=>by
  unfold ku at h' ⊢;split
  .rename_i h1;rw[if_pos h1]at h';exact KT s f (k+1) (by omega) h'
  .rename_i h1;rw[if_neg h1]at h';exact Classical.byContradiction fun hn=>h1 ⟨h',hn⟩
theorem YI{s:ByteArray}{k:Nat}(h:star s k<s.size):pk s (star s k)=42/\pk s (star s k+1)=47:=KT _ _ _ (by omega) h
theorem D9{s:ByteArray}{k:Nat}(h:star s k<s.size):star s k+2<=s.size:=by have:=dX (s:=s) (i:=star s k+1) (by have:=(YI h).2;omega);omega
theorem QW(s:ByteArray):∀f i,i<=s.size->i<=uG s f i
 |0,i,_=>Nat.le_refl _
 |f+1,i,h=>by
  unfold uG;split
  .split
   .exact h
   .rename_i h2;have h3:=DU s (i+2);have h4:=D9 (s:=s) (k:=i+2) (by omega);have:=QW s f (star s (i+2)+2) h4;omega
  .exact Nat.le_refl _
theorem QZ(s:ByteArray):∀f i,i<=s.size->uG s f i<=s.size
 |0,i,h=>h
 |f+1,i,h=>by
  unfold uG;split
  .split
   .exact Nat.le_refl _
   .exact QZ s f _ (D9 (by omega))
  .exact h
theorem OD{s:ByteArray}{i:Nat}(h:i<=s.size):i<=com s i:=QW _ _ _ h
theorem rZ{s:ByteArray}{i:Nat}(h:i<=s.size):com s i<=s.size:=QZ _ _ _ h
theorem zf(s:ByteArray)(q:Int):∀f i acc,i<=(lT s q f i acc).2
 |0,i,acc=>Nat.le_refl _
 |f+1,i,acc=>by
  unfold lT;split
  .exact Nat.le_refl _
  .split
   .exact Nat.le_succ _
   .split
    .exact Nat.le_refl _
    .split
     .split
      .have:=zf s q f (i+1) acc;omega
      .split
       .have:=zf s q f (i+2) acc;omega
       .have:=zf s q f (esc s i).2 (acc++(esc s i).1);have:=nG s i;omega
     .have:=zf s q f (i+1) (acc++one s i);omega
theorem zk(s:ByteArray)(q:Int):∀f i acc,i<=s.size->(lT s q f i acc).2<=s.size
 |0,i,acc,h=>h
 |f+1,i,acc,h=>by
  unfold lT;split
  .exact h
  .split
   .show i+1<=s.size;omega
   .split
    .exact h
    .split
     .split
      .exact zk s q f _ _ (by omega)
      .split
       .rename_i h5 h6;exact zk s q f _ _ (by have:=dX (s:=s) (i:=i+1) (by omega);omega)
       .exact zk s q f _ _ (og (by omega))
     .exact zk s q f _ _ (by omega)
theorem aaQ(s:ByteArray)(q:Int)(i:Nat):i<=(txt s q i).2:=zf _ _ _ _ _
theorem aaR{s:ByteArray}{q:Int}{i:Nat}(h:i<=s.size):(txt s q i).2<=s.size:=zk _ _ _ _ _ h
theorem Jv(s:ByteArray):∀f i,i<=rX s f i
 |0,i=>Nat.le_refl _
 |f+1,i=>by
  unfold rX;split
  .exact Nat.le_refl _
  .split
   .exact Nat.le_succ _
   .split
    .have:=Jv s f (esc s i).2;have:=nG s i;omega
    .have:=Jv s f (i+1);omega
theorem Jw(s:ByteArray):∀f i,i<=s.size->rX s f i<=s.size
 |0,i,h=>h
 |f+1,i,h=>by
  unfold rX;split
  .exact h
  .split
   .omega
   .split
    .exact Jw s f _ (og (by omega))
    .exact Jw s f _ (by omega)
theorem U9(s:ByteArray)(i:Nat):i<=bad s i:=Jv _ _ _
theorem Va{s:ByteArray}{i:Nat}(h:i<=s.size):bad s i<=s.size:=Jw _ _ _ h
theorem Ea(s:ByteArray):∀f i acc,i<=(jy s f i acc).2
 |0,i,acc=>Nat.le_refl _
 |f+1,i,acc=>by
  unfold jy;split
  .exact Nat.le_refl _
  .split
   .exact Nat.le_succ _
   .split
    .have h1:=U4 s i;have h2:=U9 s (blk s i);split
     .exact h1
     .split
      .show i<=blk s i+1;omega
      .show i<=bad s (blk s i);omega
    .split
     .have:=Ea s f (esc s i).2 (acc++(esc s i).1);have:=nG s i;omega
     .split
      .exact U9 s i
      .have:=Ea s f (i+1) (acc++one s i);omega
theorem Eb(s:ByteArray):∀f i acc,i<=s.size->(jy s f i acc).2<=s.size
 |0,i,acc,h=>h
 |f+1,i,acc,h=>by
  unfold jy;split
  .exact h
  .split
   .show i+1<=s.size;omega
   .split
    .have h1:=AZ h;split
     .exact h1
     .split
      .show blk s i+1<=s.size;omega
      .exact Va h1
    .split
     .exact Eb s f _ _ (og (by omega))
     .split
      .exact Va h
      .exact Eb s f _ _ (by omega)
theorem YJ(s:ByteArray)(i:Nat):i<=(link s i).2:=Ea _ _ _ _
theorem YK{s:ByteArray}{i:Nat}(h:i<=s.size):(link s i).2<=s.size:=Eb _ _ _ _ h
theorem OE{s:ByteArray}{i:Nat}(h:fV s i=true):i<(numeric s i).2:=by
 have h1:=DT h;have h2:=Jr s (dL s i);unfold numeric;dsimp only
 split
 .dsimp only;omega
 .split<;>dsimp only<;>omega
theorem OG{s:ByteArray}{i:Nat}(h:i<=s.size):(numeric s i).2<=s.size:=by
 have h1:=y8 h;unfold numeric;dsimp only
 split
 .rename_i h2;have:=dX (s:=s) (i:=dL s i) (by omega);dsimp only;omega
 .split
  .exact rY h1
  .exact h1
theorem Vb{s:ByteArray}{i:Nat}(h:iq s i=true):i<(named s i).2:=by
 have h1:=YF (y7 h);have h2:=U4 s ((name s i).2+1);have h3:=YJ s (blk s ((name s i).2+1));unfold named;dsimp only
 split
 .split<;>(try dsimp only)<;>omega
 .exact h1
theorem Vd{s:ByteArray}{i:Nat}(h:i<=s.size):(named s i).2<=s.size:=by
 have h1:=rY h;unfold named;dsimp only
 split
 .rename_i h2;have:=dX (s:=s) (i:=(name s i).2) (by omega);split
  .exact YK (AZ (by omega))
  .dsimp only;omega
 .exact h1
theorem Ec{s:ByteArray}{i:Nat}(_hi:i<s.size):i<(token s i).2:=by
 unfold token;split
 .rename_i h;exact U5 h
 .split
  .have:=aaQ s (pk s i) (i+1);omega
  .split
   .have:=Jr s (i+1);dsimp only;omega
   .split
    .rename_i h;exact OE h
    .split
     .dsimp only;omega
     .split
      .dsimp only;omega
      .split
       .have:=Jr s (i+1);dsimp only;omega
       .split
        .rename_i h;exact Vb h
        .dsimp only;omega
theorem uJ{s:ByteArray}{i:Nat}(hi:i<s.size):(token s i).2<=s.size:=by
 unfold token;split
 .exact AZ (by omega)
 .split
  .exact aaR (by omega)
  .split
   .exact rY (by omega)
   .split
    .exact OG (by omega)
    .split
     .rename_i h;simp[jg]at h;have:=dX (s:=s) (i:=i+3) (by omega);dsimp only;omega
     .split
      .rename_i h;simp[jJ]at h;have:=dX (s:=s) (i:=i+2) (by omega);dsimp only;omega
      .split
       .exact rY (by omega)
       .split
        .exact Vd (by omega)
        .dsimp only;omega
theorem KU(s:ByteArray):∀f i,i<=s.size->(tokF s f i).length+i<=s.size
 |0,i,h=>by simpa[tokF]using h
 |f+1,i,h=>by
  unfold tokF;split
  .simpa using h
  .have h1:=Ec (s:=s) (i:=i) (by omega);have h2:=uJ (s:=s) (i:=i) (by omega);have h3:=OD h2;have:=KU s f _ (rZ h2);simp only[List.length_cons];omega
end Go.Proofs.YtlliliddljkbfaaGreatDoor.Sp
namespace Go.Proofs.YtlliliddljkbfaaGreatDoor
set_option maxHeartbeats 64000000
set_option maxRecDepth 100000
open Go.Proofs.Tryz (prog)
open Go.RowKit Sp
theorem aI{a b:Bool}(h:a=b):Ending.returned (.bool a)=.returned (.bool b):=by rw[h]
theorem wL{k:IntKind}{a b:Int}(h:a=b):Ending.returned (.int k a)=.returned (.int k b):=by rw[h]
theorem bF(c:Int)(w:World):Calls prog 161 #[.int .i64 c] w fun e w'=>e=.returned (.bool (bJ c))/\w'=w:=by
 go_in;go_wp2
 all_goals
  go_ret;exact⟨aI (by rw[Bool.eq_iff_iff];simp[bJ, *]<;>omega),rfl⟩
theorem fG(c:Int)(w:World):Calls prog 233 #[.int .i64 c] w fun e w'=>e=.returned (.bool (aP c))/\w'=w:=by
 go_in;go_wp2
 all_goals
  go_ret;exact⟨aI (by rw[Bool.eq_iff_iff];simp[aP, *]<;>omega),rfl⟩
theorem oh(c:Int)(w:World):Calls prog 235 #[.int .i64 c] w fun e w'=>e=.returned (.bool (iY c))/\w'=w:=by
 go_in;go_wp2
 all_goals
  go_ret;exact⟨aI (by rw[Bool.eq_iff_iff];simp[iY, *]<;>omega),rfl⟩
theorem iF(c:Int)(w:World):Calls prog 232 #[.int .i64 c] w fun e w'=>e=.returned (.bool (tN c))/\w'=w:=by
 go_in;go_wp2
 all_goals
  go_ret;exact⟨aI (by rw[Bool.eq_iff_iff];simp[tN, *]<;>omega),rfl⟩
theorem gB(c:Int)(w:World):Calls prog 163 #[.int .i64 c] w fun e w'=>e=.returned (.bool (fU c))/\w'=w:=by
 go_in;go_wp2
 all_goals
  go_ret;exact⟨aI (by rw[Bool.eq_iff_iff];simp[fU, *]<;>omega),rfl⟩
theorem nH(c:Int)(w:World):Calls prog 229 #[.int .i64 c] w fun e w'=>e=.returned (.bool (iD c))/\w'=w:=by
 cases h1:iY c<;>cases h2:aP c
 all_goals
  go_in;go_wp2_with(first|(go_at_call 235;refine(oh _ _).mono ?_;rintro e w' ⟨rfl,rfl⟩)|(go_at_call 233;refine(fG _ _).mono ?_;rintro e w' ⟨rfl,rfl⟩));go_ret;exact⟨aI (by simp[iD,h1,h2]),rfl⟩
theorem zl(c:Int)(w:World):Calls prog 281 #[.int .i64 c] w fun e w'=>e=.returned (.bool (qJ c))/\w'=w:=by
 cases h1:fU c;all_goals
  go_in;go_wp2_with(go_at_call 163;refine(gB _ _).mono ?_;rintro e w' ⟨rfl,rfl⟩);all_goals
   go_ret;exact⟨aI (by rw[Bool.eq_iff_iff];simp[qJ, *]<;>omega),rfl⟩
theorem xW(c:Int)(w:World)(h0: -1<=c)(h9:c<=255):Calls prog 277 #[.int .i64 c] w fun e w'=>e=.returned (.int .i64 (nD c))/\w'=w:=by
 cases h1:aP c;all_goals
  go_in;go_wp2_with(go_at_call 233;refine(fG _ _).mono ?_;rintro e w' ⟨rfl,rfl⟩);all_goals
   go_ret;exact⟨wL (by simp[nD, *]<;>omega),rfl⟩
theorem aT(c:Int)(w:World):Calls prog 120 #[.int .u8 c] w fun e w'=>e=.returned (.bool (bJ c))/\w'=w:=by
 go_in;go_wp2
 all_goals
  go_ret;exact⟨aI (by rw[Bool.eq_iff_iff];simp[bJ, *]<;>omega),rfl⟩
theorem cO(c:Int)(w:World):Calls prog 108 #[.int .u8 c] w fun e w'=>e=.returned (.bool (aP c))/\w'=w:=by
 go_in;go_wp2
 all_goals
  go_ret;exact⟨aI (by rw[Bool.eq_iff_iff];simp[aP, *]<;>omega),rfl⟩
theorem dB(c:Int)(w:World):Calls prog 107 #[.int .u8 c] w fun e w'=>e=.returned (.bool (iY c))/\w'=w:=by
 go_in;go_wp2
 all_goals
  go_ret;exact⟨aI (by rw[Bool.eq_iff_iff];simp[iY, *]<;>omega),rfl⟩
theorem gG(c:Int)(w:World):Calls prog 123 #[.int .u8 c] w fun e w'=>e=.returned (.bool (iD c))/\w'=w:=by
 cases h1:iY c<;>cases h2:aP c
 all_goals
  go_in;go_wp2_with(first|(go_at_call 107;refine(dB _ _).mono ?_;rintro e w' ⟨rfl,rfl⟩)|(go_at_call 108;refine(cO _ _).mono ?_;rintro e w' ⟨rfl,rfl⟩));go_ret;exact⟨aI (by simp[iD,h1,h2]),rfl⟩
theorem zo(c:Int)(w:World)(h0:0<=c)(h9:c<=255):Calls prog 258 #[.int .u8 c] w fun e w'=>e=.returned (.int .i64 (nD c))/\w'=w:=by
 go_in;go_wp2
 all_goals
  go_ret;exact⟨wL (by simp[nD,aP, *]<;>omega),rfl⟩
end Go.Proofs.YtlliliddljkbfaaGreatDoor
