import Derived.Test.YtlliliddljkbfaaGreatRows
import Derived.WalkSpells
import Derived.WalkLawsBesides
import Derived.Handy
import Derived.Deep.RegionHeld
import Derived.BigQuiet
import Derived.Deep.RegionLaw
import Derived.Deep.DeepCutAuto
import Derived.Deep.Light
import Derived.Deep.AppendSrc
import Derived.Lib.IndexBytes
set_option maxHeartbeats 64000000
set_option maxRecDepth 100000
namespace Go.Proofs.YtlliliddljkbfaaGreat.Sp
abbrev BY:=ByteArray
theorem AF{p:Prop}(h:p:=by omega):p:=h
def pk(s:BY)(i:Nat):Int:=if h:i<s.size then(s[i].toNat:Int) else -1
def aO(c:Int):Bool:=c==10||c==9||c==32
def fG(c:Int):Bool:=decide (48<=c)&&decide (c<=57)
def kK(c:Int):Bool:=(decide (97<=c)&&decide (c<=122))||(decide (65<=c)&&decide (c<=90))||c==95||decide (127<c)
def lX(c:Int):Bool:=kK c||fG c||c==45
def ou(c:Int):Bool:=c==43||c==45
def dD(c:Int):Bool:=c==34||c==39
def Eb(c:Int):Bool:=dD c||c==40||c==92||decide (c<32)||c==127
def xk(c:Int):Int:=if fG c=true then c-48 else if 97<=c/\c<=102 then c-97+10 else if 65<=c/\c<=70 then c-65+10 else -1
def one(s:BY)(i:Nat):BY:=s.extract i (i+1)
def kY(s:BY)(i:Nat):Bool:=pk s i==92&&pk s (i+1) != 10
def jT(s:BY)(i:Nat):Bool:=lX (pk s i)||kY s i
def iG(s:BY)(i:Nat):Bool:=if pk s i=45 then kK (pk s (i+1))||pk s (i+1)==45||kY s (i+1) else kK (pk s i)||kY s i
def tJ(s:BY):Nat->Nat->Nat->Nat×Nat
 |0,i,n=>(n,i)
 |f+1,i,n=>if 0<=xk (pk s i) then tJ s f (i+1) (n*16+(xk (pk s i)).toNat) else(n,i)
def Ec:BY:=⟨#[63]⟩
def E8(n:Nat):BY:=⟨#[UInt8.ofNat n]⟩
def esc(s:BY)(i:Nat):BY×Nat:=
 let r:=tJ s 6 (i+1) 0
 if r.2=i+1 then(if i+1<s.size then(one s (i+1),i+2) else(Ec,i+1))
 else(if 1<=r.1/\r.1<=255 then E8 r.1 else Ec,if aO (pk s r.2)=true then r.2+1 else r.2)
def iK(s:BY):Nat->Nat->BY->BY×Nat
 |0,i,acc=>(acc,i)
 |f+1,i,acc=>
  if lX (pk s i)=true then iK s f (i+1) (acc++one s i)
  else if kY s i=true then iK s f (esc s i).2 (acc++(esc s i).1)
  else(acc,i)
def name(s:BY)(i:Nat):BY×Nat:=iK s s.size i ByteArray.empty
def Ae(s:BY):Nat->Nat->Nat
 |0,i=>i
 |f+1,i=>if aO (pk s i)=true then Ae s f (i+1) else i
def blk(s:BY)(i:Nat):Nat:=Ae s s.size i
def wU(s:BY):Nat->Nat->Nat
 |0,i=>i
 |f+1,i=>if fG (pk s i)=true then wU s f (i+1) else i
def mW(s:BY)(i:Nat):Nat:=wU s s.size i
def mX(s:BY)(i:Nat):Nat:=if ou (pk s i)=true then i+1 else i
def iO(s:BY)(i:Nat):Bool:=fG (pk s (mX s i))||(pk s (mX s i)==46&&fG (pk s (mX s i+1)))
def iq(s:BY)(k:Nat):Nat:=if pk s k=101\/pk s k=69 then(if fG (pk s (mX s (k+1)))=true then mW s (mX s (k+1)) else k) else k
def jL(s:BY)(k:Nat):Nat:=if pk s k=46/\fG (pk s (k+1))=true then mW s (k+1) else k
def bT(s:BY)(i:Nat):Nat:=iq s (jL s (mW s (mX s i)))
def lY(s:BY):Nat->Nat->Nat
 |0,k=>k
 |f+1,k=>if k<s.size/\¬(pk s k=42/\pk s (k+1)=47) then lY s f (k+1) else k
def star(s:BY)(k:Nat):Nat:=lY s s.size k
def Bv(s:BY):Nat->Nat->Nat
 |0,i=>i
 |f+1,i=>if pk s i=47/\pk s (i+1)=42 then(if s.size<=star s (i+2) then s.size else Bv s f (star s (i+2)+2)) else i
def com(s:BY)(i:Nat):Nat:=Bv s s.size i
structure Tok where
 kind:Int
 word:BY
 unit:BY
def Tok.k(n:Int):Tok:=⟨n,ByteArray.empty,ByteArray.empty⟩
def Tok.w(n:Int)(x:BY):Tok:=⟨n,x,ByteArray.empty⟩
def lK(s:BY)(q:Int):Nat->Nat->BY->Tok×Nat
 |0,i,acc=>(Tok.w 2 acc,i)
 |f+1,i,acc=>
  if s.size<=i then(Tok.w 2 acc,i)
  else if pk s i=q then(Tok.w 2 acc,i+1)
  else if pk s i=10 then(Tok.k 3,i)
  else if pk s i=92 then
   (if s.size<=i+1 then lK s q f (i+1) acc
    else if pk s (i+1)=10 then lK s q f (i+2) acc
    else lK s q f (esc s i).2 (acc++(esc s i).1))
  else lK s q f (i+1) (acc++one s i)
def txt(s:BY)(q:Int)(i:Nat):Tok×Nat:=lK s q s.size i ByteArray.empty
def Ed(s:BY):Nat->Nat->Nat
 |0,i=>i
 |f+1,i=>
  if s.size<=i then i
  else if pk s i=41 then i+1
  else if kY s i=true then Ed s f (esc s i).2
  else Ed s f (i+1)
def bad(s:BY)(i:Nat):Nat:=Ed s s.size i
def jd(s:BY):Nat->Nat->BY->Tok×Nat
 |0,i,acc=>(Tok.w 12 acc,i)
 |f+1,i,acc=>
  if s.size<=i then(Tok.w 12 acc,i)
  else if pk s i=41 then(Tok.w 12 acc,i+1)
  else if aO (pk s i)=true then
   (if s.size<=blk s i then(Tok.w 12 acc,blk s i)
    else if pk s (blk s i)=41 then(Tok.w 12 acc,blk s i+1)
    else(Tok.k 13,bad s (blk s i)))
  else if kY s i=true then jd s f (esc s i).2 (acc++(esc s i).1)
  else if Eb (pk s i)=true then(Tok.k 13,bad s i)
  else jd s f (i+1) (acc++one s i)
def link(s:BY)(i:Nat):Tok×Nat:=jd s s.size i ByteArray.empty
def jr(c:UInt8):UInt8:=if 65<=c/\c<=90 then c+32 else c
def small(s:BY):BY:=⟨(s.data.toList.map jr).toArray⟩
def url:BY:=⟨#[117,114,108]⟩
def numeric(s:BY)(i:Nat):Tok×Nat:=
 let k:=bT s i
 if pk s k=37 then(Tok.w 6 (s.extract i k),k+1)
 else if iG s k=true then(⟨7,s.extract i k,(name s k).1⟩,(name s k).2)
 else(Tok.w 5 (s.extract i k),k)
def named(s:BY)(i:Nat):Tok×Nat:=
 let r:=name s i
 if pk s r.2=40 then
  (if small r.1=url/\dD (pk s (blk s (r.2+1)))=false then link s (blk s (r.2+1))
   else(Tok.w 11 r.1,r.2+1))
 else(Tok.w 14 r.1,r.2)
def kG(s:BY)(i:Nat):Bool:=pk s i==60&&pk s (i+1)==33&&pk s (i+2)==45&&pk s (i+3)==45
def kL(s:BY)(i:Nat):Bool:=pk s i==45&&pk s (i+1)==45&&pk s (i+2)==62
def token(s:BY)(i:Nat):Tok×Nat:=
 if aO (pk s i)=true then(Tok.k 1,blk s i)
 else if dD (pk s i)=true then txt s (pk s i) (i+1)
 else if pk s i=35/\jT s (i+1)=true then(Tok.w 4 (name s (i+1)).1,(name s (i+1)).2)
 else if iO s i=true then numeric s i
 else if kG s i=true then(Tok.k 8,i+4)
 else if kL s i=true then(Tok.k 9,i+3)
 else if pk s i=64/\iG s (i+1)=true then(Tok.w 10 (name s (i+1)).1,(name s (i+1)).2)
 else if iG s i=true then named s i
 else(Tok.w 15 (one s i),i+1)
def tokF(s:BY):Nat->Nat->List Tok
 |0,_=>[]
 |f+1,i=>if s.size<=i then [] else(token s i).1::tokF s f (com s (token s i).2)
def toks(s:BY):List Tok:=tokF s s.size (com s 0)
def ZO(s:BY)(i:Nat):List UInt8:=
 if h:i<s.size then
  (if s[i]=13/\pk s (i+1)=10 then [] else if s[i]=13\/s[i]=12 then [10] else if s[i]=0 then [63] else [s[i]])
 else []
def bC(s:BY):Nat->List UInt8
 |0=>[]
 |k+1=>bC s k++ZO s k
def clean(s:BY):BY:=⟨(bC s s.size).toArray⟩
theorem zK{s:BY}{i:Nat}(h:i<s.size):pk s i=(s[i].toNat:Int):=by unfold pk;rw[dif_pos h]
theorem oK{s:BY}{i:Nat}(h:s.size<=i):pk s i = -1:=by unfold pk;rw[dif_neg (by omega)]
theorem abT(s:BY)(i:Nat): -1<=pk s i:=by unfold pk;split<;>omega
theorem Yj(s:BY)(i:Nat):pk s i<=255:=by
 unfold pk;split
 .have:=(s[i]).toNat_lt;omega
 .omega
theorem dY{s:BY}{i:Nat}(h:0<=pk s i):i<s.size:=by
 by_cases h1:i<s.size
 .exact h1
 .rw[oK (by omega)]at h;omega
theorem tK{s:BY}{i:Nat}(h:i<s.size):0<=pk s i:=by rw[zK h];omega
theorem lZ{c:Int}(h:aO c=true):0<=c:=by simp[aO]at h;omega
theorem kM{c:Int}(h:fG c=true):48<=c/\c<=57:=by simp[fG]at h;exact h
theorem afG{c:Int}(h:kK c=true):0<=c:=by simp[kK]at h;omega
theorem uV{c:Int}(h:lX c=true):0<=c:=by
 simp only[lX,Bool.or_eq_true,beq_iff_eq]at h;rcases h with (h|h)|h
 .exact afG h
 .have:=kM h;omega
 .omega
theorem Yk{c:Int}(h:ou c=true):0<=c:=by simp[ou]at h;omega
theorem abU{c:Int}(h:dD c=true):0<=c:=by simp[dD]at h;omega
theorem abV{c:Int}(h:0<=xk c):0<=c:=by
 unfold xk at h;split at h
 .rename_i h1;have:=kM h1;omega
 .split at h
  .omega
  .split at h<;>omega
theorem aiJ(c:Int):xk c<=15:=by
 unfold xk;split
 .rename_i h1;have:=kM h1;omega
 .split
  .omega
  .split<;>omega
theorem aiK(c:Int): -1<=xk c:=by
 unfold xk;split
 .rename_i h1;have:=kM h1;omega
 .split
  .omega
  .split<;>omega
theorem abW{s:BY}{i:Nat}(h:kY s i=true):pk s i=92/\pk s (i+1)≠10:=by simpa[kY]using h
theorem Oc{s:BY}{i:Nat}(h:kY s i=true):i<s.size:=dY (by have:=(abW h).1;omega)
theorem iQ{s:BY}{i:Nat}(h:i<s.size):(one s i).size=1:=by simp[one];omega
theorem Yl(s:BY):∀f i n,i<=(tJ s f i n).2
 |0,i,n=>Nat.le_refl _
 |f+1,i,n=>by
  unfold tJ;split
  .have:=Yl s f (i+1) (n*16+(xk (pk s i)).toNat);omega
  .exact Nat.le_refl _
theorem Ym(s:BY):∀f i n,i<=s.size->(tJ s f i n).2<=s.size
 |0,i,n,h=>h
 |f+1,i,n,h=>by
  unfold tJ;split
  .rename_i h1;exact Ym s f (i+1) _ (dY (abV h1))
  .exact h
theorem oL(s:BY)(i:Nat):i<(esc s i).2:=by
 have h:=Yl s 6 (i+1) 0;unfold esc;dsimp only
 split
 .split<;>dsimp only<;>omega
 .dsimp only;split<;>omega
theorem uX{s:BY}{i:Nat}(hi:i<s.size):(esc s i).2<=s.size:=by
 have h:=Ym s 6 (i+1) 0 AF;unfold esc;dsimp only
 split
 .split<;>dsimp only<;>omega
 .dsimp only
  split
  .rename_i h1;have:=dY (lZ h1);omega
  .exact h
theorem kN{s:BY}{i:Nat}:(esc s i).1.size=1:=by
 unfold esc;dsimp only
 split
 .split
  .rename_i h;exact iQ h
  .rfl
 .dsimp only;split<;>rfl
theorem xq(s:BY):∀f i acc,i<=(iK s f i acc).2
 |0,i,acc=>Nat.le_refl _
 |f+1,i,acc=>by
  unfold iK;split
  .have:=xq s f (i+1) (acc++one s i);omega
  .split
   .have:=xq s f (esc s i).2 (acc++(esc s i).1);have:=oL s i;omega
   .exact Nat.le_refl _
theorem GV(s:BY):∀f i acc,i<=s.size->(iK s f i acc).2<=s.size
 |0,i,acc,h=>h
 |f+1,i,acc,h=>by
  unfold iK;split
  .rename_i h1;exact GV s f (i+1) _ (dY (uV h1))
  .split
   .rename_i h1;exact GV s f _ _ (uX (Oc h1))
   .exact h
theorem Oe(s:BY)(i:Nat):i<=(name s i).2:=xq _ _ _ _
theorem yV{s:BY}{i:Nat}(h:i<=s.size):(name s i).2<=s.size:=GV _ _ _ _ h
theorem afH{s:BY}{i:Nat}(h:jT s i=true):i<(name s i).2:=by
 have hl:i<s.size:=by
  simp only[jT,Bool.or_eq_true]at h;rcases h with h|h
  .exact dY (uV h)
  .exact Oc h
 unfold name;obtain⟨f,hf⟩:∃f,s.size=f+1:=⟨s.size-1,by omega⟩;rw[hf];unfold iK;split
 .have:=xq s f (i+1) (ByteArray.empty++one s i);omega
 .split
  .have:=xq s f (esc s i).2 (ByteArray.empty++(esc s i).1);have:=oL s i;omega
  .rename_i h1 h2;simp[jT,h1,h2]at h
theorem xu{s:BY}{i:Nat}(h:iG s i=true):jT s i=true:=by
 unfold iG at h;split at h
 .rename_i h1;simp[jT,lX,h1]
 .simp only[Bool.or_eq_true]at h;rcases h with h|h
  .simp[jT,lX,h]
  .simp[jT,h]
theorem Og(s:BY):∀f i,i<=Ae s f i
 |0,i=>Nat.le_refl _
 |f+1,i=>by
  unfold Ae;split
  .have:=Og s f (i+1);omega
  .exact Nat.le_refl _
theorem Yn(s:BY):∀f i,i<=s.size->Ae s f i<=s.size
 |0,i,h=>h
 |f+1,i,h=>by
  unfold Ae;split
  .rename_i h1;exact Yn s f (i+1) (dY (lZ h1))
  .exact h
theorem Ee(s:BY)(i:Nat):i<=blk s i:=Og _ _ _
theorem Oh{s:BY}{i:Nat}(h:i<=s.size):blk s i<=s.size:=Yn _ _ _ h
theorem Vp{s:BY}{i:Nat}(h:aO (pk s i)=true):i<blk s i:=by have hl:=dY (lZ h);unfold blk;obtain⟨f,hf⟩:∃f,s.size=f+1:=⟨s.size-1,by omega⟩;rw[hf];unfold Ae;rw[if_pos h];have:=Og s f (i+1);omega
theorem Oi(s:BY):∀f i,i<=wU s f i
 |0,i=>Nat.le_refl _
 |f+1,i=>by
  unfold wU;split
  .have:=Oi s f (i+1);omega
  .exact Nat.le_refl _
theorem Yo(s:BY):∀f i,i<=s.size->wU s f i<=s.size
 |0,i,h=>h
 |f+1,i,h=>by
  unfold wU;split
  .rename_i h1;exact Yo s f (i+1) (dY (by have:=kM h1;omega))
  .exact h
theorem xw(s:BY)(i:Nat):i<=mW s i:=Oi _ _ _
theorem GX{s:BY}{i:Nat}(h:i<=s.size):mW s i<=s.size:=Yo _ _ _ h
theorem GY{s:BY}{i:Nat}(h:fG (pk s i)=true):i<mW s i:=by have hl:i<s.size:=dY (by have:=kM h;omega);unfold mW;obtain⟨f,hf⟩:∃f,s.size=f+1:=⟨s.size-1,by omega⟩;rw[hf];unfold wU;rw[if_pos h];have:=Oi s f (i+1);omega
theorem Qm{s:BY}{i:Nat}(h:fG (pk s i)=false):mW s i=i:=by
 unfold mW;cases hf:s.size with
 |zero=>rfl
 |succ f=>unfold wU;rw[if_neg (by simp[h])]
theorem Ef(s:BY)(i:Nat):i<=mX s i:=by unfold mX;split<;>omega
theorem aiL{s:BY}{i:Nat}(h:i<=s.size):mX s i<=s.size:=by
 unfold mX;split
 .rename_i h1;have:=dY (Yk h1);omega
 .exact h
theorem afI(s:BY)(i:Nat):mX s i<=i+1:=by unfold mX;split<;>omega
theorem Oj(s:BY)(k:Nat):k<=iq s k:=by
 unfold iq;split
 .split
  .have:=xw s (mX s (k+1));have:=Ef s (k+1);omega
  .exact Nat.le_refl _
 .exact Nat.le_refl _
theorem afJ{s:BY}{k:Nat}(h:k<=s.size):iq s k<=s.size:=by
 unfold iq;split
 .split
  .rename_i h2;exact GX (by have:=dY (s:=s) (i:=mX s (k+1)) (by have:=kM h2;omega);omega)
  .exact h
 .exact h
theorem Bz(s:BY)(k:Nat):k<=jL s k:=by
 unfold jL;split
 .have:=xw s (k+1);omega
 .exact Nat.le_refl _
theorem abX{s:BY}{k:Nat}(h:k<=s.size):jL s k<=s.size:=by
 unfold jL;split
 .rename_i h2;exact GX (by have:=dY (s:=s) (i:=k+1) (by have:=kM h2.2;omega);omega)
 .exact h
theorem yX{s:BY}{i:Nat}(h:i<=s.size):bT s i<=s.size:=afJ (abX (GX (aiL h)))
theorem yY{s:BY}{i:Nat}(h:iO s i=true):i<bT s i:=by
 have h1:=Ef s i;have h3:=Bz s (mW s (mX s i));have h4:=Oj s (jL s (mW s (mX s i)));unfold bT;simp only[iO,Bool.or_eq_true,Bool.and_eq_true,beq_iff_eq]at h;rcases h with h|⟨h,h'⟩
 .have:=GY h;omega
 .have e:fG (pk s (mX s i))=false:=by rw[h];rfl
  have h5:jL s (mX s i)=mW s (mX s i+1):=by unfold jL;rw[if_pos ⟨h,h'⟩]
  have:=xw s (mX s i+1);rw[Qm e]at h3 h4⊢;omega
theorem afK(s:BY)(i:Nat):i<=bT s i:=by have h1:=Ef s i;have h2:=xw s (mX s i);have h3:=Bz s (mW s (mX s i));have h4:=Oj s (jL s (mW s (mX s i)));unfold bT;omega
theorem BF(s:BY):∀f k,k<=lY s f k
 |0,k=>Nat.le_refl _
 |f+1,k=>by
  unfold lY;split
  .have:=BF s f (k+1);omega
  .exact Nat.le_refl _
theorem Qn(s:BY):∀f k,k<=s.size->lY s f k<=s.size
 |0,k,h=>h
 |f+1,k,h=>by
  unfold lY;split
  .exact Qn s f (k+1) AF
  .exact h
theorem Ol(s:BY)(k:Nat):k<=star s k:=BF _ _ _
theorem afL{s:BY}{k:Nat}(h:k<=s.size):star s k<=s.size:=Qn _ _ _ h
theorem Qo(s:BY):∀f k,s.size<=k+f->lY s f k<s.size->pk s (lY s f k)=42/\pk s (lY s f k+1)=47
 |0,k,h,h'=>by unfold lY at h';omega
 |f+1,k,h,h'=>by
  unfold lY at h' ⊢;split
  .rename_i h1;rw[if_pos h1]at h';exact Qo s f (k+1) AF h'
  .rename_i h1;rw[if_neg h1]at h';exact Classical.byContradiction fun hn=>h1 ⟨h',hn⟩
theorem afM{s:BY}{k:Nat}(h:star s k<s.size):pk s (star s k)=42/\pk s (star s k+1)=47:=Qo _ _ _ AF h
theorem GZ{s:BY}{k:Nat}(h:star s k<s.size):star s k+2<=s.size:=by have:=dY (s:=s) (i:=star s k+1) (by have:=(afM h).2;omega);omega
theorem Yp(s:BY):∀f i,i<=s.size->i<=Bv s f i
 |0,i,_=>Nat.le_refl _
 |f+1,i,h=>by
  unfold Bv;split
  .split
   .exact h
   .rename_i h2;have h3:=Ol s (i+2);have h4:=GZ (s:=s) (k:=i+2) AF;have:=Yp s f (star s (i+2)+2) h4;omega
  .exact Nat.le_refl _
theorem Yq(s:BY):∀f i,i<=s.size->Bv s f i<=s.size
 |0,i,h=>h
 |f+1,i,h=>by
  unfold Bv;split
  .split
   .exact Nat.le_refl _
   .exact Yq s f _ (GZ AF)
  .exact h
theorem Vq{s:BY}{i:Nat}(h:i<=s.size):i<=com s i:=Yp _ _ _ h
theorem Af{s:BY}{i:Nat}(h:i<=s.size):com s i<=s.size:=Yq _ _ _ h
theorem BG(s:BY)(q:Int):∀f i acc,i<=(lK s q f i acc).2
 |0,i,acc=>Nat.le_refl _
 |f+1,i,acc=>by
  unfold lK;split
  .exact Nat.le_refl _
  .split
   .exact Nat.le_succ _
   .split
    .exact Nat.le_refl _
    .split
     .split
      .have:=BG s q f (i+1) acc;omega
      .split
       .have:=BG s q f (i+2) acc;omega
       .have:=BG s q f (esc s i).2 (acc++(esc s i).1);have:=oL s i;omega
     .have:=BG s q f (i+1) (acc++one s i);omega
theorem BH(s:BY)(q:Int):∀f i acc,i<=s.size->(lK s q f i acc).2<=s.size
 |0,i,acc,h=>h
 |f+1,i,acc,h=>by
  unfold lK;split
  .exact h
  .split
   .show i+1<=s.size;omega
   .split
    .exact h
    .split
     .split
      .exact BH s q f _ _ AF
      .split
       .rename_i h5 h6;exact BH s q f _ _ (by have:=dY (s:=s) (i:=i+1) AF;omega)
       .exact BH s q f _ _ (uX AF)
     .exact BH s q f _ _ AF
theorem aiM(s:BY)(q:Int)(i:Nat):i<=(txt s q i).2:=BG _ _ _ _ _
theorem aiN{s:BY}{q:Int}{i:Nat}(h:i<=s.size):(txt s q i).2<=s.size:=BH _ _ _ _ _ h
theorem Om(s:BY):∀f i,i<=Ed s f i
 |0,i=>Nat.le_refl _
 |f+1,i=>by
  unfold Ed;split
  .exact Nat.le_refl _
  .split
   .exact Nat.le_succ _
   .split
    .have:=Om s f (esc s i).2;have:=oL s i;omega
    .have:=Om s f (i+1);omega
theorem Oo(s:BY):∀f i,i<=s.size->Ed s f i<=s.size
 |0,i,h=>h
 |f+1,i,h=>by
  unfold Ed;split
  .exact h
  .split
   .omega
   .split
    .exact Oo s f _ (uX AF)
    .exact Oo s f _ AF
theorem Oq(s:BY)(i:Nat):i<=bad s i:=Om _ _ _
theorem abY{s:BY}{i:Nat}(h:i<=s.size):bad s i<=s.size:=Oo _ _ _ h
theorem G7(s:BY):∀f i acc,i<=(jd s f i acc).2
 |0,i,acc=>Nat.le_refl _
 |f+1,i,acc=>by
  unfold jd;split
  .exact Nat.le_refl _
  .split
   .exact Nat.le_succ _
   .split
    .have h1:=Ee s i;have h2:=Oq s (blk s i);split
     .exact h1
     .split
      .show i<=blk s i+1;omega
      .show i<=bad s (blk s i);omega
    .split
     .have:=G7 s f (esc s i).2 (acc++(esc s i).1);have:=oL s i;omega
     .split
      .exact Oq s i
      .have:=G7 s f (i+1) (acc++one s i);omega
theorem G8(s:BY):∀f i acc,i<=s.size->(jd s f i acc).2<=s.size
 |0,i,acc,h=>h
 |f+1,i,acc,h=>by
  unfold jd;split
  .exact h
  .split
   .show i+1<=s.size;omega
   .split
    .have h1:=Oh h;split
     .exact h1
     .split
      .show blk s i+1<=s.size;omega
      .exact abY h1
    .split
     .exact G8 s f _ _ (uX AF)
     .split
      .exact abY h
      .exact G8 s f _ _ AF
theorem afN(s:BY)(i:Nat):i<=(link s i).2:=G7 _ _ _ _
theorem afO{s:BY}{i:Nat}(h:i<=s.size):(link s i).2<=s.size:=G8 _ _ _ _ h
theorem Vr{s:BY}{i:Nat}(h:iO s i=true):i<(numeric s i).2:=by
 have h1:=yY h;have h2:=Oe s (bT s i);unfold numeric;dsimp only
 split
 .dsimp only;omega
 .split<;>dsimp only<;>omega
theorem Vs{s:BY}{i:Nat}(h:i<=s.size):(numeric s i).2<=s.size:=by
 have h1:=yX h;unfold numeric;dsimp only
 split
 .rename_i h2;have:=dY (s:=s) (i:=bT s i) AF;dsimp only;omega
 .split
  .exact yV h1
  .exact h1
theorem abZ{s:BY}{i:Nat}(h:iG s i=true):i<(named s i).2:=by
 have h1:=afH (xu h);have h2:=Ee s ((name s i).2+1);have h3:=afN s (blk s ((name s i).2+1));unfold named;dsimp only
 split
 .split<;>(try dsimp only)<;>omega
 .exact h1
theorem ab1{s:BY}{i:Nat}(h:i<=s.size):(named s i).2<=s.size:=by
 have h1:=yV h;unfold named;dsimp only
 split
 .rename_i h2;have:=dY (s:=s) (i:=(name s i).2) AF;split
  .exact afO (Oh AF)
  .dsimp only;omega
 .exact h1
theorem xA{s:BY}{i:Nat}(_hi:i<s.size):i<(token s i).2:=by
 unfold token;split
 .rename_i h;exact Vp h
 .split
  .have:=aiM s (pk s i) (i+1);omega
  .split
   .have:=Oe s (i+1);dsimp only;omega
   .split
    .rename_i h;exact Vr h
    .split
     .dsimp only;omega
     .split
      .dsimp only;omega
      .split
       .have:=Oe s (i+1);dsimp only;omega
       .split
        .rename_i h;exact abZ h
        .dsimp only;omega
theorem xB{s:BY}{i:Nat}(hi:i<s.size):(token s i).2<=s.size:=by
 unfold token;split
 .exact Oh AF
 .split
  .exact aiN AF
  .split
   .exact yV AF
   .split
    .exact Vs AF
    .split
     .rename_i h;simp[kG]at h;have:=dY (s:=s) (i:=i+3) AF;dsimp only;omega
     .split
      .rename_i h;simp[kL]at h;have:=dY (s:=s) (i:=i+2) AF;dsimp only;omega
      .split
       .exact yV AF
       .split
        .exact ab1 AF
        .dsimp only;omega
end Go.Proofs.YtlliliddljkbfaaGreat.Sp
namespace Go.Proofs.YtlliliddljkbfaaGreat
open Go.Proofs.Tryz (prog)
open Go.RowKit Sp
abbrev WD:=World
abbrev Av:=Value
theorem Nm{α:Type}(a:α):∃x,Hid (a=x):=⟨_,rfl⟩
theorem hid{p:Prop}(h:p):Hid p:=h
theorem Ax{n:Nat}{w:World}:Below n w w:=Below.refl n w
theorem Ay{α:Type}{a:Array α}{i:Nat}{x:α}(h:a[i]?=some x):i<a.size:=(Array.getElem?_eq_some_iff.1 h).1
theorem AC{w v u:World}(h:Below w.heap.size w v)(k:Below v.heap.size v u):Below w.heap.size w u:=h.trans (k.mono h.size)
theorem AE{w v:World}{n:Nat}{x:Obj}(k:Below w.heap.size w v)(h:w.heap[n]?=some x):v.heap[n]?=some x:=(k.block n (Ay h)).trans h
theorem Ab{p:Prop}(h:p:=by simp):p:=h
theorem Al{p:Prop}(h:p:=by decide):p:=h
theorem An{p:Prop}(h:p:=by (simp;omega)):p:=h
theorem Ao{p:Prop}(h:p:=by kernel_rfl):p:=h
theorem As{p:Prop}(h:p:=by (unfold maxLen;omega)):p:=h
theorem aC{a b:Bool}(h:a=b):Ending.returned (.bool a)=.returned (.bool b):=by rw[h]
theorem aiO{k:IntKind}{a b:Int}(h:a=b):Ending.returned (.int k a)=.returned (.int k b):=by rw[h]
theorem aW(c:Int)(w:WD):Calls prog 175 #[.int .i64 c] w fun e w'=>e=.returned (.bool (aO c))/\w'=w:=by
 go_in;go_wp2
 all_goals
  go_ret;exact⟨aC (by rw[Bool.eq_iff_iff];simp[aO, *]<;>omega),rfl⟩
theorem eY(c:Int)(w:WD):Calls prog 241 #[.int .i64 c] w fun e w'=>e=.returned (.bool (fG c))/\w'=w:=by
 go_in;go_wp2
 all_goals
  go_ret;exact⟨aC (by rw[Bool.eq_iff_iff];simp[fG, *]<;>omega),rfl⟩
theorem oM(c:Int)(w:WD):Calls prog 243 #[.int .i64 c] w fun e w'=>e=.returned (.bool (kK c))/\w'=w:=by
 go_in;go_wp2
 all_goals
  go_ret;exact⟨aC (by rw[Bool.eq_iff_iff];simp[kK, *]<;>omega),rfl⟩
theorem gB(c:Int)(w:WD):Calls prog 240 #[.int .i64 c] w fun e w'=>e=.returned (.bool (ou c))/\w'=w:=by
 go_in;go_wp2
 all_goals
  go_ret;exact⟨aC (by rw[Bool.eq_iff_iff];simp[ou, *]<;>omega),rfl⟩
theorem fH(c:Int)(w:WD):Calls prog 177 #[.int .i64 c] w fun e w'=>e=.returned (.bool (dD c))/\w'=w:=by
 go_in;go_wp2
 all_goals
  go_ret;exact⟨aC (by rw[Bool.eq_iff_iff];simp[dD, *]<;>omega),rfl⟩
theorem nC(c:Int)(w:WD):Calls prog 237 #[.int .i64 c] w fun e w'=>e=.returned (.bool (lX c))/\w'=w:=by
 cases h1:kK c<;>cases h2:fG c
 all_goals
  go_in;go_wp2_with(first|(go_at_call 243;refine(oM _ _).mono ?_;rintro e w' ⟨rfl,rfl⟩)|(go_at_call 241;refine(eY _ _).mono ?_;rintro e w' ⟨rfl,rfl⟩));go_ret;exact⟨aC (by simp[lX,h1,h2]),rfl⟩
theorem BI(c:Int)(w:WD):Calls prog 291 #[.int .i64 c] w fun e w'=>e=.returned (.bool (Eb c))/\w'=w:=by
 cases h1:dD c;all_goals
  go_in;go_wp2_with(go_at_call 177;refine(fH _ _).mono ?_;rintro e w' ⟨rfl,rfl⟩);all_goals
   go_ret;exact⟨aC (by rw[Bool.eq_iff_iff];simp[Eb, *]<;>omega),rfl⟩
theorem Ag(c:Int)(w:WD)(h0: -1<=c)(h9:c<=255):Calls prog 287 #[.int .i64 c] w fun e w'=>e=.returned (.int .i64 (xk c))/\w'=w:=by
 cases h1:fG c;all_goals
  go_in;go_wp2_with(go_at_call 241;refine(eY _ _).mono ?_;rintro e w' ⟨rfl,rfl⟩);all_goals
   go_ret;exact⟨aiO (by simp[xk, *]<;>omega),rfl⟩
section
structure Turn(b:Nat)(w w':WD):Prop where
 os:w'.os=w.os
 tape:w'.tape=w.tape
 output:w'.output=w.output
 size:w.heap.size<=w'.heap.size
 block:∀k,k<w.heap.size->k≠b->w'.heap[k]?=w.heap[k]?
theorem Turn.refl(b:Nat)(w:WD):Turn b w w:=⟨rfl,rfl,rfl,Nat.le_refl _,fun _ _ _=>rfl⟩
theorem Turn.trans{b:Nat}{x y z:WD}(h:Turn b x y)(k:Turn b y z):Turn b x z:=⟨k.os.trans h.os,k.tape.trans h.tape,k.output.trans h.output,Nat.le_trans h.size k.size,fun i hi hb=>(k.block i (Nat.lt_of_lt_of_le hi h.size) hb).trans (h.block i hi hb)⟩
theorem Turn.drewN{b:Nat}{x y:WD}(h:Turn b x y)(n:Nat):Turn b x (y.drewN n):=⟨h.os,h.tape,h.output,h.size,h.block⟩
theorem Turn.alloc{b:Nat}{x y:WD}(h:Turn b x y)(o:Obj):Turn b x (y.alloc o):=h.trans ⟨rfl,rfl,rfl,by simp,fun k hk _=>Below.heap_alloc _ _ _ hk⟩
theorem Turn.setCell{b:Nat}{x y:WD}(h:Turn b x y)(o:Nat)(v:Av):Turn b x (y.setCell ⟨b,o,none⟩ v):=h.trans ⟨rfl,rfl,rfl,by simp[World.setCell],fun k _ hb=>Below.heap_setCell _ _ _ _ hb⟩
theorem Turn.below{b B:Nat}{x y:WD}(h:Turn b x y)(hB:B<=b)(hx:B<=x.heap.size):Below B x y:=⟨h.os,h.tape,h.output,h.size,fun k hk=>h.block k (by omega) (by omega)⟩
theorem Turn.of_below{b:Nat}{x y:WD}(h:Below x.heap.size x y):Turn b x y:=⟨h.os,h.tape,h.output,h.size,fun k hk _=>h.block k hk⟩
structure Sc(w:WD)(b:Nat)(s:BY)(i:Nat):Prop where
 blk:w.heap[b]?=some (.cells #[.string s,.int .i64 (i:Int)] 201 (0,0))
 glob:∃m,w.cell? ⟨0,0,none⟩=some (.int .i64 m)
 pos:0<b
 len:s.size<=600
 le:i<=s.size
section
variable {w:WD} {b:Nat} {s:BY} {i:Nat}
theorem Sc.lt(h:Sc w b s i):b<w.heap.size:=by
 by_cases h1:b<w.heap.size
 .exact h1
 .have:=h.blk;rw[Array.getElem?_eq_none (by omega)]at this;cases this
theorem Sc.c0(h:Sc w b s i):w.cell? ⟨b,0,none⟩=some (.string s):=by unfold World.cell?;rw[h.blk];rfl
theorem Sc.c1(h:Sc w b s i):w.cell? ⟨b,1,none⟩=some (.int .i64 (i:Int)):=by unfold World.cell?;rw[h.blk];rfl
theorem Sc.f1(h:Sc w b s i):w.frozen? ⟨b,1,none⟩=false:=by unfold World.frozen?;rw[h.blk];rfl
theorem Sc.drewN(h:Sc w b s i)(n:Nat):Sc (w.drewN n) b s i:=⟨h.blk,h.glob,h.pos,h.len,h.le⟩
theorem Sc.set(h:Sc w b s i)(j:Nat)(hj:j<=s.size):Sc (w.setCell ⟨b,1,none⟩ (.int .i64 (j:Int))) b s j:=by
 refine⟨?_,?_,h.pos,h.len,hj⟩
 .simp only[World.setCell,Array.getElem?_modify,h.blk];simp
 .obtain⟨m,hm⟩:=h.glob;exact⟨m,by rw[<-hm];exact World.cell?_of_block (w:=w) (Below.heap_setCell _ _ _ _ (by have:=h.pos;show(0:Nat)≠b;omega))⟩
theorem Sc.alloc(h:Sc w b s i)(o:Obj):Sc (w.alloc o) b s i:=by
 have hl:=h.lt;refine⟨?_,?_,h.pos,h.len,h.le⟩
 .rw[Below.heap_alloc _ _ _ hl];exact h.blk
 .obtain⟨m,hm⟩:=h.glob;exact⟨m,by rw[<-hm];exact World.cell?_of_block (w:=w) (Below.heap_alloc _ _ _ (by show 0<w.heap.size;have:=h.pos;omega))⟩
end
theorem gQ(s:BY)(i:Nat)(h:i<s.size)(w:WD):(Instr.index 9 (.string s) (.int .i64 (i:Int))).run prog w=.ok (.int .u8 (pk s i)) w:=by rw[run_index_string w 9 s .i64 i Tryz.underlying9,dif_pos ⟨by omega,by omega⟩,zK h];simp
theorem afP(s:BY)(i:Nat):IntKind.i64.wrap (pk s i)=pk s i:=by have:=abT s i;have:=Yj s i;rw[IntKind.wrap_i64];omega
theorem ak(s:BY)(b i:Nat)(a:Int)(k:Nat)(w:WD)(h:Sc w b s i)(ha:0<=a/\a<=10/\(i:Int)+a=k):
  Calls prog 113 #[.pointer (some ⟨b,0,none⟩),.int .i64 a] w fun e w'=>e=.returned (.int .i64 (pk s k))/\∃n,w'=w.drewN n:=by
 have h0:=h.c0;have h1:=h.c1;have hs:=h.len;have hi:=h.le;clear h;obtain⟨n,rfl⟩:=Int.eq_ofNat_of_zero_le ha.1;obtain rfl:k=i+n:=by omega
 have ha':n<=10:=by omega
 clear ha;by_cases hlt:i+n<s.size
 .have hix:=gQ s (i+n) hlt;have hw1:IntKind.i64.wrap ((i:Int)+(n:Int))=((i+n:Nat):Int):=by rw[IntKind.wrap_i64];omega
  have hw2:=afP s (i+n);simp only[Int.natCast_add]at hix hw1;go_in;go_wp2
  go_quiet (fail)
  go_wp2
  go_quiet (fail)
  go_wp2
  go_ret;exact⟨rfl,_,World.drewN_drewN _ _ _⟩
 .rw[oK (by omega)];go_in;go_wp2
  go_quiet (fail)
  go_wp2
  go_ret;exact⟨rfl,_,rfl⟩
theorem fA(s:BY)(b i:Nat)(a:Int)(k:Nat)(w:WD)(h:Sc w b s i)(ha:0<=a/\a<=9/\(i:Int)+a=k):
  Calls prog 238 #[.pointer (some ⟨b,0,none⟩),.int .i64 a] w fun e w'=>e=.returned (.bool (kY s k))/\∃n,w'=w.drewN n:=by
 have g0:=ha.1;have g1:=ha.2.1;have HA:=hid ha.2.2;clear ha;cases h92:(pk s k==92)
 .have HV:Hid (kY s k=false):=by show kY s k=false;simp[kY,h92]
  go_in;go_wp2_with fail;refine(ak s b i _ k _ h ⟨by omega,by omega,by have:=HA.out;omega⟩).mono ?_;rintro e w1 ⟨rfl,n1,rfl⟩;go_wp2_with fail;go_ret;exact⟨aC HV.out.symm,_,rfl⟩
 .have HV:Hid (kY s k=(pk s (k+1) != 10)):=by show kY s k=_;simp[kY,h92]
  go_in;go_wp2_with fail;refine(ak s b i _ k _ h ⟨by omega,by omega,by have:=HA.out;omega⟩).mono ?_;rintro e w1 ⟨rfl,n1,rfl⟩;go_wp2_with fail;refine(ak s b i _ (k+1) _ (h.drewN _) ⟨by omega,by omega,by have:=HA.out;omega⟩).mono ?_;rintro e w1 ⟨rfl,n2,rfl⟩;go_wp2_with fail;go_ret;exact⟨aC HV.out.symm,_,rfl⟩
theorem kZ(s:BY)(b i:Nat)(a:Int)(k:Nat)(w:WD)(h:Sc w b s i)(ha:0<=a/\a<=9/\(i:Int)+a=k):
  Calls prog 179 #[.pointer (some ⟨b,0,none⟩),.int .i64 a] w fun e w'=>e=.returned (.bool (jT s k))/\∃n,w'=w.drewN n:=by
 have g0:=ha.1;have g1:=ha.2.1;have HA:=hid ha.2.2;clear ha;cases hn:lX (pk s k)
 .have HV:Hid (jT s k=kY s k):=by show jT s k=_;simp[jT,hn]
  go_in;go_wp2_with fail;refine(ak s b i _ k _ h ⟨by omega,by omega,by have:=HA.out;omega⟩).mono ?_;rintro e w1 ⟨rfl,n1,rfl⟩;go_wp2_with fail;refine(nC _ _).mono ?_;rintro e w1 ⟨rfl,rfl⟩;go_wp2_with fail;refine(fA s b i _ k _ (h.drewN _) ⟨by omega,by omega,by have:=HA.out;omega⟩).mono ?_;rintro e w1 ⟨rfl,n2,rfl⟩;go_wp2_with fail;go_ret;exact⟨aC (by rw[HV.out]),_,rfl⟩
 .have HV:Hid (jT s k=true):=by show jT s k=_;simp[jT,hn]
  go_in;go_wp2_with fail;refine(ak s b i _ k _ h ⟨by omega,by omega,by have:=HA.out;omega⟩).mono ?_;rintro e w1 ⟨rfl,n1,rfl⟩;go_wp2_with fail;refine(nC _ _).mono ?_;rintro e w1 ⟨rfl,rfl⟩;go_wp2_with fail;go_ret;exact⟨aC HV.out.symm,_,rfl⟩
theorem fP(s:BY)(b i:Nat)(a:Int)(k:Nat)(w:WD)(h:Sc w b s i)(ha:0<=a/\a<=8/\(i:Int)+a=k):
  Calls prog 183 #[.pointer (some ⟨b,0,none⟩),.int .i64 a] w fun e w'=>e=.returned (.bool (iG s k))/\∃n,w'=w.drewN n:=by
 have g0:=ha.1;have g1:=ha.2.1;have HA:=hid ha.2.2;clear ha;cases h45:(pk s k==45)
 .have n45:¬pk s k=45:=by simpa using h45
  cases hl:kK (pk s k)
  .have HV:Hid (iG s k=kY s k):=by show iG s k=_;simp[iG,n45,hl]
   clear n45;go_in;go_wp2_with fail;refine(ak s b i _ k _ h ⟨by omega,by omega,by have:=HA.out;omega⟩).mono ?_;rintro e w1 ⟨rfl,n1,rfl⟩;go_wp2_with fail;refine(ak s b i _ k _ (h.drewN _) ⟨by omega,by omega,by have:=HA.out;omega⟩).mono ?_;rintro e w1 ⟨rfl,n2,rfl⟩;go_wp2_with fail;refine(oM _ _).mono ?_;rintro e w1 ⟨rfl,rfl⟩;go_wp2_with fail;refine(fA s b i _ k _ (h.drewN _) ⟨by omega,by omega,by have:=HA.out;omega⟩).mono ?_;rintro e w1 ⟨rfl,n3,rfl⟩;go_wp2_with fail;go_ret;exact⟨aC (by rw[HV.out]),_,rfl⟩
  .have HV:Hid (iG s k=true):=by show iG s k=_;simp[iG,n45,hl]
   clear n45;go_in;go_wp2_with fail;refine(ak s b i _ k _ h ⟨by omega,by omega,by have:=HA.out;omega⟩).mono ?_;rintro e w1 ⟨rfl,n1,rfl⟩;go_wp2_with fail;refine(ak s b i _ k _ (h.drewN _) ⟨by omega,by omega,by have:=HA.out;omega⟩).mono ?_;rintro e w1 ⟨rfl,n2,rfl⟩;go_wp2_with fail;refine(oM _ _).mono ?_;rintro e w1 ⟨rfl,rfl⟩;go_wp2_with fail;go_ret;exact⟨aC HV.out.symm,_,rfl⟩
 .have n45:pk s k=45:=by simpa using h45
  cases hl:kK (pk s (k+1))
  .cases hd:(pk s (k+1)==45)
   .have HV:Hid (iG s k=kY s (k+1)):=by show iG s k=_;simp[iG,n45,hl,hd]
    clear n45;go_in;go_wp2_with fail;refine(ak s b i _ k _ h ⟨by omega,by omega,by have:=HA.out;omega⟩).mono ?_;rintro e w1 ⟨rfl,n1,rfl⟩;go_wp2_with fail;refine(ak s b i _ (k+1) _ (h.drewN _) ⟨by omega,by omega,by have:=HA.out;omega⟩).mono ?_;rintro e w1 ⟨rfl,n2,rfl⟩;go_wp2_with fail;refine(oM _ _).mono ?_;rintro e w1 ⟨rfl,rfl⟩;go_wp2_with fail;refine(fA s b i _ (k+1) _ (h.drewN _) ⟨by omega,by omega,by have:=HA.out;omega⟩).mono ?_;rintro e w1 ⟨rfl,n3,rfl⟩;go_wp2_with fail;go_ret;exact⟨aC (by rw[HV.out]),_,rfl⟩
   .have HV:Hid (iG s k=true):=by show iG s k=_;simp[iG,n45,hl,hd]
    clear n45;go_in;go_wp2_with fail;refine(ak s b i _ k _ h ⟨by omega,by omega,by have:=HA.out;omega⟩).mono ?_;rintro e w1 ⟨rfl,n1,rfl⟩;go_wp2_with fail;refine(ak s b i _ (k+1) _ (h.drewN _) ⟨by omega,by omega,by have:=HA.out;omega⟩).mono ?_;rintro e w1 ⟨rfl,n2,rfl⟩;go_wp2_with fail;refine(oM _ _).mono ?_;rintro e w1 ⟨rfl,rfl⟩;go_wp2_with fail;go_ret;exact⟨aC HV.out.symm,_,rfl⟩
  .have HV:Hid (iG s k=true):=by show iG s k=_;simp[iG,n45,hl]
   clear n45;go_in;go_wp2_with fail;refine(ak s b i _ k _ h ⟨by omega,by omega,by have:=HA.out;omega⟩).mono ?_;rintro e w1 ⟨rfl,n1,rfl⟩;go_wp2_with fail;refine(ak s b i _ (k+1) _ (h.drewN _) ⟨by omega,by omega,by have:=HA.out;omega⟩).mono ?_;rintro e w1 ⟨rfl,n2,rfl⟩;go_wp2_with fail;refine(oM _ _).mono ?_;rintro e w1 ⟨rfl,rfl⟩;go_wp2_with fail;go_ret;exact⟨aC HV.out.symm,_,rfl⟩
theorem dn(s:BY)(b i:Nat)(w:WD)(h:Sc w b s i):
  Calls prog 181 #[.pointer (some ⟨b,0,none⟩)] w fun e w'=>e=.returned (.bool (iO s i))/\∃n,w'=w.drewN n:=by
 cases hsg:ou (pk s i)
 .have hk:mX s i=i:=by simp[mX,hsg]
  cases h46:(pk s i==46);focus
   have HV:Hid (iO s i=fG (pk s i)):=by show iO s i=_;simp[iO,hk,h46]
   clear hk;go_in;go_wp2_with fail;refine(ak s b i _ i _ h ⟨by omega,by omega,by omega⟩).mono ?_;rintro e w1 ⟨rfl,n1,rfl⟩;go_wp2_with fail;refine(gB _ _).mono ?_;rintro e w1 ⟨rfl,rfl⟩;go_wp2_with fail;refine(ak s b i _ i _ (h.drewN _) ⟨by omega,by omega,by omega⟩).mono ?_;rintro e w1 ⟨rfl,n2,rfl⟩;go_wp2_with fail;refine(ak s b i _ i _ (h.drewN _) ⟨by omega,by omega,by omega⟩).mono ?_
  rotate_left;focus
   have HV:Hid (iO s i=fG (pk s (i+1))):=by
    have e:pk s i=46:=by simpa using h46
    show iO s i=_;rw[iO,hk,e];simp[fG]
   clear hk;go_in;go_wp2_with fail;refine(ak s b i _ i _ h ⟨by omega,by omega,by omega⟩).mono ?_;rintro e w1 ⟨rfl,n1,rfl⟩;go_wp2_with fail;refine(gB _ _).mono ?_;rintro e w1 ⟨rfl,rfl⟩;go_wp2_with fail;refine(ak s b i _ i _ (h.drewN _) ⟨by omega,by omega,by omega⟩).mono ?_;rintro e w1 ⟨rfl,n2,rfl⟩;go_wp2_with fail;refine(ak s b i _ (i+1) _ (h.drewN _) ⟨by omega,by omega,by omega⟩).mono ?_
  rotate_left;all_goals
   rintro e w1 ⟨rfl,n3,rfl⟩;go_wp2_with fail;refine(eY _ _).mono ?_;rintro e w1 ⟨rfl,rfl⟩;go_wp2_with fail;go_ret;exact⟨aC HV.out.symm,_,rfl⟩
 .have hk:mX s i=i+1:=by simp[mX,hsg]
  cases h46:(pk s (i+1)==46);focus
   have HV:Hid (iO s i=fG (pk s (i+1))):=by show iO s i=_;simp[iO,hk,h46]
   clear hk;go_in;go_wp2_with fail;refine(ak s b i _ i _ h ⟨by omega,by omega,by omega⟩).mono ?_;rintro e w1 ⟨rfl,n1,rfl⟩;go_wp2_with fail;refine(gB _ _).mono ?_;rintro e w1 ⟨rfl,rfl⟩;go_wp2_with fail;refine(ak s b i _ (i+1) _ (h.drewN _) ⟨by omega,by omega,by omega⟩).mono ?_;rintro e w1 ⟨rfl,n2,rfl⟩;go_wp2_with fail;refine(ak s b i _ (i+1) _ (h.drewN _) ⟨by omega,by omega,by omega⟩).mono ?_
  rotate_left;focus
   have HV:Hid (iO s i=fG (pk s (i+2))):=by
    have e:pk s (i+1)=46:=by simpa using h46
    show iO s i=_;rw[iO,hk,e];simp[fG]
   clear hk;go_in;go_wp2_with fail;refine(ak s b i _ i _ h ⟨by omega,by omega,by omega⟩).mono ?_;rintro e w1 ⟨rfl,n1,rfl⟩;go_wp2_with fail;refine(gB _ _).mono ?_;rintro e w1 ⟨rfl,rfl⟩;go_wp2_with fail;refine(ak s b i _ (i+1) _ (h.drewN _) ⟨by omega,by omega,by omega⟩).mono ?_;rintro e w1 ⟨rfl,n2,rfl⟩;go_wp2_with fail;refine(ak s b i _ (i+2) _ (h.drewN _) ⟨by omega,by omega,by omega⟩).mono ?_
  rotate_left;all_goals
   rintro e w1 ⟨rfl,n3,rfl⟩;go_wp2_with fail;refine(eY _ _).mono ?_;rintro e w1 ⟨rfl,rfl⟩;go_wp2_with fail;go_ret;exact⟨aC HV.out.symm,_,rfl⟩
theorem FT{P:Program}{ops:Array Oper}{Q:Exit->Act->WD->Prop}{md:Region.Mode}(i:Nat){oi:Oper}{v:Av}{fuel:Nat}{listed:Array Bool}{a a':Act}{w:WD}
  (h:wpAny P md ops Q fuel (listed.setIfInBounds i true) a' w) (hi:ops[i]?=some oi:=by rfl) (hs:Region.noSelect ops=true:=by kernel_rfl) (hf:Region.free md ops listed i=true:=by kernel_rfl) (hr:(Region.ready md ops listed).contains i=true:=by kernel_rfl)
  (hw:Region.wanted oi (yielded ops a.tmps)=true:=by kernel_rfl) (hy:∀w,(execOp a.eval oi).run P w=.ok (.value v) w:=by intro w;go_simp;all_goals with_reducible rfl)
  (hQ:∀c a w,Q (.panic c) (a.put oi.dst v) w->Q (.panic c) a w:=by exact fun _ _ _ h=>h)
  (ha:a.put oi.dst v=a':=by(try simp only[List.getElem_toArray]);(try simp only[List.getElem_cons_succ]);(try simp only[List.getElem_cons_zero]);(try simp only[Act.put]);(try simp only[List.setIfInBounds_toArray]);(try simp only[List.set_cons_succ]);(try simp only[List.set_cons_zero]);all_goals with_reducible rfl):wpAny P md ops Q (fuel+1) listed a w:=by
 subst ha;exact wpAny_take hi hs hf hr hQ (Or.inl ⟨hw,hy⟩) h
theorem dH{P:Program}{ops:Array Oper}{Q:Exit->Act->WD->Prop}{md:Region.Mode}{S:WD->Prop}(i:Nat){oi:Oper}{v:Av}{fuel:Nat}{listed:Array Bool}{a a':Act}{w:WD}
  (hi:ops[i]?=some oi) (hS:S w) (hy:∀w,S w->(execOp a.eval oi).run P w=.ok (.value v) w) (h:wpAnyH P md ops Q S fuel (listed.setIfInBounds i true) a' w) (hs:Region.noSelect ops=true:=by kernel_rfl) (hf:Region.free md ops listed i=true:=by kernel_rfl) (hr:(Region.ready md ops listed).contains i=true:=by kernel_rfl)
  (hw:Region.wanted oi (yielded ops a.tmps)=true:=by kernel_rfl)
  (hQ:∀c a w,Q (.panic c) (a.put oi.dst v) w->Q (.panic c) a w:=by exact fun _ _ _ h=>h)
  (ha:a.put oi.dst v=a':=by(try simp only[List.getElem_toArray]);(try simp only[List.getElem_cons_succ]);(try simp only[List.getElem_cons_zero]);(try simp only[Act.put]);(try simp only[List.setIfInBounds_toArray]);(try simp only[List.set_cons_succ]);(try simp only[List.set_cons_zero]);all_goals with_reducible rfl):wpAnyH P md ops Q S (fuel+1) listed a w:=by
 subst ha;exact wpAnyH_take hi hs hf hr hQ (Or.inl ⟨hw,hy⟩) hS h
theorem Qp{P:Program}{ops:Array Oper}{Q:Exit->Act->WD->Prop}{md:Region.Mode}{S:WD->Prop}(i:Nat){oi:Oper}{v:Av}{fuel:Nat}{listed:Array Bool}{a a':Act}{w:WD}
  (hi:ops[i]?=some oi) (hS:S w) (hy:∀w,S w->(execOp a.eval oi).run P w=.ok (.value v) w) (h:wpAnyH P md ops Q S fuel (listed.setIfInBounds i true) a' w) (hs:Region.noSelect ops=true:=by kernel_rfl) (hf:Region.free md ops listed i=true:=by kernel_rfl) (hr:(Region.ready md ops listed).contains i=true:=by kernel_rfl)
  (hw:Region.wanted oi (yielded ops a.tmps)=true:=by kernel_rfl)
  (hQ:∀c a w,Q (.panic c) (a.put oi.dst v) w->Q (.panic c) a w:=by exact fun _ _ _ h=>h)
  (ha:a.put oi.dst v=a':=by(try simp only[Act.put,List.setIfInBounds_toArray,List.set_cons_zero,List.set_cons_succ]);all_goals with_reducible rfl):wpAnyH P md ops Q S (fuel+1) listed a w:=by
 subst ha;exact wpAnyH_take hi hs hf hr hQ (Or.inl ⟨hw,hy⟩) hS h
theorem brA{P:Program}{ops:Array Oper}{Q:Exit->Act->WD->Prop}{md:Region.Mode}(i:Nat){o:Oper}{fuel:Nat}{listed:Array Bool}{a:Act}{w:WD}
  (h:∀K':Act->WD->Prop,(∀a w,wpAny P md ops Q fuel (listed.setIfInBounds i true) a w->K' a w)->if Region.wanted o (yielded ops a.tmps)=true then Oper.wp P o a w K' Q else K' (a.put o.dst undef) w)
  (ho:ops[i]?=some o:=by rfl) (hr:Region.ready md ops listed=[i]:=by kernel_rfl):wpAny P md ops Q (fuel+1) listed a w:=
 wpAny_ready hr Ab (AllReady.cons ho h AllReady.nil)
theorem iW{P:Program}{ops:Array Oper}{Q:Exit->Act->WD->Prop}{md:Region.Mode}{S:WD->Prop}(i:Nat){o:Oper}{fuel:Nat}{listed:Array Bool}{a:Act}{w:WD}
  (h:∀K':Act->WD->Prop,Shut (∀a w,S w->(S w->wpAnyH P md ops Q S fuel (listed.setIfInBounds i true) a w)->K' a w)->if Region.wanted o (yielded ops a.tmps)=true then Oper.wp P o a w K' Q else K' (a.put o.dst undef) w)
  (ho:ops[i]?=some o:=by rfl) (hr:Region.ready md ops listed=[i]:=by kernel_rfl):wpAnyH P md ops Q S (fuel+1) listed a w:=
 wpAnyH_ready hr Ab (AllReadyH.cons ho h AllReadyH.nil)
theorem jA{P:Program}{f:FuncId}{args:Array Av}{w w2:WD}{v:Av}{Q:Ending->WD->Prop}(h:Calls P f args w fun e w'=>e=.returned v/\w'=w2)(k:Q (.returned v) w2):Calls P f args w Q:=h.mono fun _ _ ⟨he,hw⟩=>by rw[he,hw];exact k
theorem cZ{α:Type}{P:Program}{f:FuncId}{args:Array Av}{w:WD}{w2:α->WD}{v:Av}{Q:Ending->WD->Prop}(h:Calls P f args w fun e w'=>e=.returned v/\∃n,w'=w2 n)(k:∀n,Q (.returned v) (w2 n)):Calls P f args w Q:=h.mono fun _ _ ⟨he,n,hw⟩=>by rw[he,hw];exact k n
theorem pmb{P:Program}{f:FuncId}{args:Array Av}{w:WD}{R:WD->Prop}{v:Av}{Q:Ending->WD->Prop}(h:Calls P f args w fun e w'=>e=.returned v/\R w')(k:∀w',R w'->Q (.returned v) w'):Calls P f args w Q:=h.mono fun _ w' ⟨he,hw⟩=>by rw[he];exact k w' hw
theorem gs{p:Prop}(h:p:=by go_simp;all_goals with_reducible rfl):p:=h
theorem oa{p:Prop}(h:p:=by first|omega|(simp only[ByteArray.size_append];omega)):p:=h
theorem oo{p:Prop}(h:p:=by omega):p:=h
theorem nl{n:Nat}:n<=n:=Nat.le_refl n
theorem _root_.Go.RowKit.Hid.o{p:Prop}(h:Hid p):p:=h
theorem _root_.Go.Aside.o{p:Prop}(h:Aside p):p:=h
theorem _root_.Go.Shut.o{p:Prop}(h:Shut p):p:=h
end
end Go.Proofs.YtlliliddljkbfaaGreat
namespace Go.Proofs.YtlliliddljkbfaaGreat.Sp
section
inductive Nd where
 |mk (t:Tok) (kids:List Nd)
def Nd.t:Nd->Tok
 |.mk t _=>t
def Nd.kids:Nd->List Nd
 |.mk _ k=>k
@[simp] theorem Nd.Qq (t:Tok) (k:List Nd):(Nd.mk t k).t=t:=rfl
@[simp] theorem Nd.BK (t:Tok) (k:List Nd):(Nd.mk t k).kids=k:=rfl
def b1(n:UInt8):BY:=⟨#[n]⟩
def aA:BY:=⟨#[]⟩
def closing(t:Tok):BY:=if t.kind=11 then b1 41 else if t.kind=15 then(if t.word=b1 40 then b1 41 else if t.word=b1 91 then b1 93 else if t.word=b1 123 then b1 125 else aA) else aA
def au(t:Tok)(w:BY):Bool:=decide (t.kind=15)&&decide (t.word=w)
def dN(n:Nd)(w:BY):Bool:=au n.t w
structure dI(t:Tok):Prop where
 word:t.word.size<=4000000
 unit:t.unit.size<=1000
 num:t.kind=5->0<t.word.size
 dim:t.kind=7->0<t.unit.size
 sign:t.kind=15->t.word.size=1
 named:t.kind=4\/t.kind=10\/t.kind=11\/t.kind=14->0<t.word.size
def mY:Nat->BY->List Tok->List Nd×List Tok
 |0,_,ts=>([],ts)
 |_+1,_,[]=>([],[])
 |f+1,e,t::r=>
  if e≠aA/\au t e=true then([],r)
  else
   let a:=if closing t=aA then([],r) else mY f (closing t) r
   let b:=mY f e a.2
   (.mk t a.1::b.1,b.2)
def kids(e:BY)(ts:List Tok):List Nd×List Tok:=mY ts.length e ts
def inside(t:Tok)(r:List Tok):List Nd×List Tok:=if closing t=aA then([],r) else kids (closing t) r
def nodes(ts:List Tok):List Nd:=(kids aA ts).1
mutual
def eU:Nd->Nat
 |.mk t k=>if closing t=aA then 0 else depth k+1
def depth:List Nd->Nat
 |[]=>0
 |n::r=>max (eU n) (depth r)
end
def iH(n:Nd):Bool:=decide (n.t.kind=1)
def aH:List Nd->List Nd
 |[]=>[]
 |n::r=>if iH n=true then aH r else n::r
def lJ(l:List Nd):List Nd:=(aH l.reverse).reverse
def bare(l:List Nd):List Nd:=lJ (aH l)
def iZ(out:List (List Nd))(cur:List Nd):List Nd->List (List Nd)
 |[]=>out++[cur]
 |n::r=>if dN n (b1 44)=true then iZ (out++[cur]) [] r else iZ out (cur++[n]) r
def parted(l:List Nd):List (List Nd):=iZ [] [] l
inductive Simple where
 |mk (kind:Nat) (name how value:BY) (list:List (List (Nat×List Simple))) (place:Nat)
abbrev Step:=Nat×List Simple
abbrev bY:=List (List Step)
def Simple.of(kind:Nat)(name:BY):Simple:=.mk kind name aA aA [] 0
def gU(l:List Nd):Option (Nat×List Nd):=
 match aH l with
 |[]=>if l=[] then none else some (32,[])
 |n::r=>
  if dN n (b1 62)=true then some (62,aH r)
  else if dN n (b1 43)=true then some (43,aH r)
  else if dN n (b1 126)=true then some (126,aH r)
  else if (n::r).length<l.length then some (32,n::r) else none
def BL:BY:=⟨#[114,111,111,116]⟩
def uY:BY:=⟨#[102,105,114,115,116,45,99,104,105,108,100]⟩
def BM:BY:=⟨#[108,97,115,116,45,99,104,105,108,100]⟩
def Eh:BY:=⟨#[101,109,112,116,121]⟩
def nD:BY:=⟨#[110,111,116]⟩
def DY:BY:=⟨#[105,115]⟩
def nG:BY:=⟨#[110,116,104,45,99,104,105,108,100]⟩
def sZ:BY:=⟨#[111,100,100]⟩
def l7:BY:=⟨#[101,118,101,110]⟩
def oN:Nat->List UInt8->Option Nat
 |v,[]=>if v<=999 then some v else none
 |v,c::r=>if 48<=c.toNat/\c.toNat<=57/\v<=999 then oN (10*v+c.toNat-48) r else none
def placeOf(t:Tok):Option Nat:=
 if t.kind=14 then(if small t.word=l7 then some 1 else if small t.word=sZ then some 0 else none)
 else if t.kind=5/\fG (pk t.word 0)=true then(oN 0 t.word.data.toList).map (· + 2)
 else none
def gG(l:List Nd):Option Simple:=
 match l with
 |[]=>none
 |n::r=>
  if n.t.kind≠14 then none
  else
   let l1:=bare r
   match l1 with
   |[]=>some (Simple.of 91 n.t.word)
   |m::r1=>
    if m.t.kind≠15 then none
    else
     let h:=m.t.word=b1 126\/m.t.word=b1 94\/m.t.word=b1 36\/m.t.word=b1 42
     let l2:=if h then r1 else m::r1
     match l2 with
     |[]=>none
     |q::r2=>
      match bare r2 with
      |[v]=>if dN q (b1 61)=true/\(v.t.kind=14\/v.t.kind=2) then some (.mk 91 n.t.word ((if h then m.t.word else aA)++b1 61) v.t.word [] 0) else none
      |_=>none
section
variable (rec:List Nd->Option bY)
def bM(n:Nd):Option Simple:=
 let w:=small n.t.word
 if n.t.kind=14 then(if w=BL\/w=uY\/w=BM\/w=Eh then some (Simple.of 58 w) else none)
 else if n.t.kind≠11 then none
 else if w=nD\/w=DY then(rec n.kids).map (fun l=>.mk 58 w aA aA l 0)
 else if w=nG then
  (match bare n.kids with
   |[v]=>(placeOf v.t).map (fun p=>.mk 58 w aA aA [] p)
   |_=>none)
 else none
def bZ:List Simple->List Nd->Option (List Simple×List Nd)
 |acc,[]=>some (acc,[])
 |acc,[n]=>
  if n.t.kind=4 then some (acc++[Simple.of 35 n.t.word],[])
  else if dN n (b1 46)=true then none
  else if dN n (b1 91)=true then(match gG (bare n.kids)with|none=>none|some s=>some (acc++[s],[]))
  else if dN n (b1 58)=true then none
  else some (acc,[n])
 |acc,n::m::r=>
  if n.t.kind=4 then bZ (acc++[Simple.of 35 n.t.word]) (m::r)
  else if dN n (b1 46)=true then(if m.t.kind=14 then bZ (acc++[Simple.of 46 m.t.word]) r else none)
  else if dN n (b1 91)=true then(match gG (bare n.kids)with|none=>none|some s=>bZ (acc++[s]) (m::r))
  else if dN n (b1 58)=true then(match bM rec m with|none=>none|some s=>bZ (acc++[s]) r)
  else some (acc,n::m::r)
def kP(l:List Nd):List Simple×List Nd:=
 match l with
 |[]=>([],[])
 |n::r=>if n.t.kind=14 then([Simple.of 116 (small n.t.word)],r) else if dN n (b1 42)=true then([Simple.of 116 aA],r) else([],n::r)
def aZ(l:List Nd):Option (List Simple×List Nd):=bZ rec (kP l).1 (kP l).2
def bD:Nat->Nat->List Nd->Option (List Step)
 |0,_,_=>none
 |f+1,b,l=>
  match aZ rec l with
  |none=>none
  |some (all,r)=>
   if all=[] then none
   else if r=[] then some [(b,all)]
   else match gU r with
    |none=>none
    |some (c,r')=>(bD f c r').map (fun x=>(b,all)::x)
def je(l:List Nd):Option (List Step):=bD rec (l.length+1) 0 l
def fZ:List (List Nd)->Option bY
 |[]=>some []
 |p::r=>match je rec (bare p)with|none=>none|some s=>(fZ r).map (fun x=>s::x)
def oz(l:List Nd):Option bY:=if 8<(parted l).length then none else fZ rec (parted l)
end
def lM:Nat->List Nd->Option bY
 |0,l=>oz (fun _=>none) l
 |f+1,l=>oz (lM f) l
def Ot(l:List Nd):Option bY:=lM (depth l) l
structure Elem where
 parent:Int
 tag:BY
 id:BY
 classes:List BY
 attrs:List (BY×BY)
abbrev aI:=List Elem
def oC(c:UInt8):Bool:=(decide (97<=c.toNat)&&decide (c.toNat<=122))||(decide (48<=c.toNat)&&decide (c.toNat<=57))||c==45
def nameP(s:BY):Bool:=s.data.toList.all oC&&decide (s.size<=12)
def dK(s:BY):Bool:=s.data.toList.all (fun c=>oC c||c==32)&&decide (s.size<=24)
def xC(i:Nat)(x:Elem):Bool:=
 nameP x.tag&&!decide (x.tag=aA)&&nameP x.id&&decide (x.classes.length<=4)&&decide (x.attrs.length<=4) &&
 (if i=0 then x.parent == -1 else decide (0<=x.parent)&&decide (x.parent<i)) &&
 x.classes.all (fun c=>nameP c&&!decide (c=aA))&&x.attrs.all (fun a=>nameP a.1&&dK a.2&&!decide (a.1=aA))
def gI:Nat->aI->Bool
 |_,[]=>true
 |i,x::r=>xC i x&&gI (i+1) r
def iL(p:aI):Bool:=decide (1<=p.length)&&decide (p.length<=30)&&gI 0 p
def parentOf(p:aI)(e:Nat):Int:=(p[e]?.map Elem.parent).getD (-1)
def gJ(p:aI)(q:Int):Nat->List Nat
 |0=>[]
 |k+1=>if parentOf p k=q then gJ p q k++[k] else gJ p q k
def ahead(p:aI)(e:Nat):List Nat:=gJ p (parentOf p e) e
def before(p:aI)(e:Nat):Int:=match (ahead p e).getLast? with|none=>-1|some k=>(k:Int)
def qo(p:aI)(e:Nat):Nat:=(ahead p e).length+1
def lastB(p:aI)(e:Nat):Bool:=(List.range p.length).all (fun k=>!(decide (e<k)&&parentOf p k==parentOf p e))
def aiP(p:aI)(e:Nat):Bool:=(List.range p.length).all (fun k=>parentOf p k != (e:Int))
def Vt:BY->List UInt8->List BY
 |w,[]=>[w]
 |w,c::r=>if aO c.toNat=true then w::Vt aA r else Vt (w++b1 c) r
def aiQ(s v:BY):Bool:=!decide (v=aA)&&(Vt aA s.data.toList).any (fun c=>decide (c=v))
def ab2(s v:BY)(i:Nat):Bool:=decide (i+v.size<=s.size)&&decide (s.extract i (i+v.size)=v)
def akF(s v:BY):Bool:=(List.range (s.size+1)).any (ab2 s v)
def fits(how x v:BY):Bool:=
 if how=aA then true
 else if how=b1 61 then decide (x=v)
 else if how=⟨#[126,61]⟩ then aiQ x v
 else !decide (v=aA)&&(if how=⟨#[94,61]⟩ then ab2 x v 0 else if how=⟨#[36,61]⟩ then decide (v.size<=x.size)&&ab2 x v (x.size-v.size) else akF x v)
def aia(name how v:BY):List (BY×BY)->Bool
 |[]=>false
 |a::r=>if a.1=name then fits how a.2 v else aia name how v r
def afQ(kind:Nat)(name how value:BY)(place:Nat)(p:aI)(e:Nat)(inn:Bool):Bool:=
 match p[e]? with
 |none=>false
 |some x=>
  if kind=116 then decide (name=aA)||decide (name=small x.tag)
  else if kind=35 then !decide (x.id=aA)&&decide (x.id=name)
  else if kind=46 then x.classes.any (fun c=>decide (c=name))
  else if kind=91 then aia name how value x.attrs
  else if name=BL then e==0
  else if name=uY then qo p e==1
  else if name=BM then lastB p e
  else if name=Eh then aiP p e
  else if name=nG then(if 2<=place then qo p e==place-2 else qo p e%2==1-place)
  else if name=nD then !inn
  else inn
def akG(p:aI)(by_:Nat)(was:Nat->Bool):Nat->Nat->Bool
 |0,_=>false
 |f+1,e=>
  let e':=if by_=32\/by_=62 then parentOf p e else before p e
  if e'<0 then false
  else if was e'.toNat=true then true
  else if by_=62\/by_=43 then false
  else akG p by_ was f e'.toNat
def led(p:aI)(by_:Nat)(was:Nat->Bool)(e:Nat):Bool:=akG p by_ was (e+1) e
mutual
def onS(p:aI):Simple->Nat->Bool
 |.mk kind name how value list place,e=>afQ kind name how value place p e (onL p list e)
def Me(p:aI):List Simple->Nat->Bool
 |[],_=>true
 |s::r,e=>onS p s e&&Me p r e
def onC(p:aI):List (Nat×List Simple)->Option (Nat->Bool)->Nat->Bool
 |[],was,e=>(was.getD (fun _=>false)) e
 |(b,all)::r,was,e=>onC p r (some (fun k=>(match was with|none=>true|some f=>led p b f k)&&Me p all k)) e
def onL(p:aI):List (List (Nat×List Simple))->Nat->Bool
 |[],_=>false
 |c::r,e=>onC p c none e||onL p r e
end
end
end Go.Proofs.YtlliliddljkbfaaGreat.Sp
namespace Go.Proofs.YtlliliddljkbfaaGreat
open Go.Proofs.Tryz (prog)
open Go.RowKit Sp
section
theorem fC(a:BY):a.toList=a.data.toList:=by simp[ByteArray.toList_eq]
theorem bytes_beq(a b:BY):(a.toList==b.toList)=decide (a=b):=by
 rw[Bool.eq_iff_iff,beq_iff_eq,decide_eq_true_iff,fC,fC];constructor
 .intro h;exact ByteArray.ext (Array.toList_inj.1 h)
 .rintro rfl;rfl
theorem ay(a:BY)(l:List UInt8):(a.toList==l)=decide (a=⟨l.toArray⟩):=by rw[<-bytes_beq a ⟨l.toArray⟩,fC ⟨l.toArray⟩]
def fB(t:Tok)(kv:Av):Av:=.agg #[.int .i64 t.kind,.string t.word,.string t.unit,kv]
mutual
def BO(S:Nat->Prop)(w:WD):Nd->Nat->Nat->Prop
 |.mk t k,g,o=>(S g/\dI t)/\w.cell? ⟨g,o,none⟩=some (.int .i64 t.kind)/\w.cell? ⟨g,o+1,none⟩=some (.string t.word)/\w.cell? ⟨g,o+2,none⟩=some (.string t.unit) /\
   ∃(a:Option Addr) (cap:Nat),w.cell? ⟨g,o+3,none⟩=some (.slice a k.length cap)/\(k.length<=cap/\k.length<=600)/\(k≠[]->∃g' o',a=some ⟨g',o',none⟩/\gq S w k g' o')
def gq(S:Nat->Prop)(w:WD):List Nd->Nat->Nat->Prop
 |[],_,_=>True
 |n::r,g,o=>BO S w n g o/\gq S w r g (o+4)
end
def Sl(S:Nat->Prop)(w:WD)(v:Av)(ns:List Nd):Prop:=∃(a:Option Addr) (cap:Nat),v=.slice a ns.length cap/\(ns.length<=cap/\ns.length<=600)/\(ns≠[]->∃g o,a=some ⟨g,o,none⟩/\gq S w ns g o)
section
variable {S S':Nat->Prop} {w w':WD}
theorem MB(t:Tok)(k:List Nd)(g o:Nat):BO S w (.mk t k) g o↔(S g/\dI t)/\w.cell? ⟨g,o,none⟩=some (.int .i64 t.kind)/\w.cell? ⟨g,o+1,none⟩=some (.string t.word)/\w.cell? ⟨g,o+2,none⟩=some (.string t.unit) /\
  ∃kv,w.cell? ⟨g,o+3,none⟩=some kv/\Sl S w kv k:=by
 unfold BO Sl;constructor
 .rintro ⟨h0,h1,h2,h3,a,cap,h4,h5⟩;exact⟨h0,h1,h2,h3,_,h4,a,cap,rfl,h5⟩
 .rintro ⟨h0,h1,h2,h3,kv,h4,a,cap,rfl,h5⟩;exact⟨h0,h1,h2,h3,a,cap,h4,h5⟩
mutual
theorem BO.keep(hS:∀g,S g->S' g)(hw:∀g,S g->w'.heap[g]?=w.heap[g]?):∀(n:Nd) (g o:Nat),BO S w n g o->BO S' w' n g o
 |.mk t k,g,o,h=>by unfold BO at h⊢;obtain⟨⟨h0,hok⟩,h1,h2,h3,a,cap,h4,hc,h5⟩:=h;have e:∀x,w'.cell? ⟨g,x,none⟩=w.cell? ⟨g,x,none⟩:=fun x=>World.cell?_of_block (w:=w) (hw g h0);refine⟨⟨hS g h0,hok⟩,by rw[e];exact h1,by rw[e];exact h2,by rw[e];exact h3,a,cap,by rw[e];exact h4,hc,fun hk=>?_⟩;obtain⟨g',o',h6,h7⟩:=h5 hk;exact⟨g',o',h6,gq.keep hS hw k g' o' h7⟩
theorem gq.keep(hS:∀g,S g->S' g)(hw:∀g,S g->w'.heap[g]?=w.heap[g]?):∀(l:List Nd) (g o:Nat),gq S w l g o->gq S' w' l g o
 |[],_,_,_=>by simp[gq]
 |n::r,g,o,h=>by unfold gq at h⊢;exact⟨BO.keep hS hw n g o h.1,gq.keep hS hw r g (o+4) h.2⟩
end
theorem Sl.keep{v:Av}{ns:List Nd}(h:Sl S w v ns)(hS:∀g,S g->S' g)(hw:∀g,S g->w'.heap[g]?=w.heap[g]?):Sl S' w' v ns:=by obtain⟨a,cap,h1,hc,h2⟩:=h;refine⟨a,cap,h1,hc,fun hn=>?_⟩;obtain⟨g,o,h3,h4⟩:=h2 hn;exact⟨g,o,h3,h4.keep hS hw⟩
theorem Sl.nil(S:Nat->Prop)(w:WD):Sl S w (.slice none 0 0) []:=⟨none,0,rfl,by simp,fun h=>absurd rfl h⟩
theorem Sl.len{v:Av}{ns:List Nd}(h:Sl S w v ns):ns.length<=600:=by obtain⟨_,_,_,hc,_⟩:=h;exact hc.2
theorem Sl.below{B B':Nat}{v:Av}{ns:List Nd}(h:Sl (fun b=>b<B) w v ns)(hb:Below B' w w')(hB:B<=B'):Sl (fun b=>b<B) w' v ns:=h.keep (fun _ hg=>hg) fun g hg=>hb.block g (Nat.lt_of_lt_of_le hg hB)
theorem gq.at:∀(l:List Nd) (g o i:Nat) (_:gq S w l g o) (hi:i<l.length),BO S w l[i] g (o+i*4)
 |n::r,g,o,0,h,_=>by unfold gq at h;simpa using h.1
 |n::r,g,o,i+1,h,hi=>by unfold gq at h;have:=gq.at r g (o+4) i h.2 (by simpa using hi);rw[show o+(i+1)*4=o+4+i*4 from by omega];simpa using this
theorem gq.drop:∀(l:List Nd) (g o i:Nat) (_:gq S w l g o),gq S w (l.drop i) g (o+i*4)
 |l,g,o,0,h=>by simpa using h
 |[],g,o,i+1,h=>by simp[gq]
 |n::r,g,o,i+1,h=>by unfold gq at h;rw[show o+(i+1)*4=o+4+i*4 from by omega];simpa using gq.drop r g (o+4) i h.2
theorem gq.take:∀(l:List Nd) (g o i:Nat) (_:gq S w l g o),gq S w (l.take i) g o
 |l,g,o,0,h=>by simp[gq]
 |[],g,o,i+1,h=>by simp[gq]
 |n::r,g,o,i+1,h=>by unfold gq at h;simp only[List.take_succ_cons];unfold gq;exact⟨h.1,gq.take r g (o+4) i h.2⟩
end
theorem Sl.cut{S:Nat->Prop}{w:WD}{a:Option Addr}{n cap:Nat}{ns:List Nd}(h:Sl S w (.slice a n cap) ns)(i j:Nat)(hij:i<=j)(hj:j<=ns.length):Sl S w (sliced a i j cap 4) ((ns.take j).drop i):=by
 obtain⟨a',cap',h1,⟨hc,h6⟩,h2⟩:=h;cases h1;unfold sliced;have hl:((ns.take j).drop i).length=j-i:=by simp;omega
 refine⟨_,cap-i,by rw[hl],⟨oo,oo⟩,fun hn=>?_⟩;have hne:ns≠[]:=by rintro rfl;simp at hn
 have hlt:i<j:=by
  by_cases e:i<j
  .exact e
  .exact absurd (List.eq_nil_of_length_eq_zero oo) hn
 obtain⟨g,o,rfl,h4⟩:=h2 hne;refine⟨g,o+i*4,?_,(h4.take ns g o j).drop _ g o i⟩;rw[if_neg oo];simp[Addr.add]
theorem Sl.iE(S:Nat->Prop)(w:WD)(a:Option Addr)(c:Nat):Sl S w (.slice a 0 c) []:=⟨a,c,rfl,⟨by simp,by simp⟩,fun h=>absurd rfl h⟩
theorem Sl.tail{S:Nat->Prop}{w:WD}{g o n cap:Nat}{x:Nd}{r:List Nd}(h:Sl S w (.slice (some ⟨g,o,none⟩) n cap) (x::r)):Sl S w (.slice (some ⟨g,o+4,none⟩) r.length (cap-1)) r:=by obtain⟨a',cap',h1,⟨hc,h6⟩,h2⟩:=h;cases h1;simp only[List.length_cons]at hc h6;refine⟨_,cap-1,rfl,⟨oo,oo⟩,fun _=>?_⟩;obtain⟨g',o',e,h4⟩:=h2 Ab;cases e;unfold gq at h4;exact⟨g,o+4,rfl,h4.2⟩
theorem Sl.init{S:Nat->Prop}{w:WD}{a:Option Addr}{n cap:Nat}{ns:List Nd}(h:Sl S w (.slice a n cap) ns)(j:Nat)(hj:j<=ns.length):Sl S w (.slice a j cap) (ns.take j):=by obtain⟨a',cap',h1,⟨hc,h6⟩,h2⟩:=h;cases h1;refine⟨a,cap,by simp;omega,⟨by simp;omega,by simp;omega⟩,fun hn=>?_⟩;obtain⟨g,o,rfl,h4⟩:=h2 (by rintro rfl;simp at hn);exact⟨g,o,rfl,h4.take ns g o j⟩
theorem Sl.here{S:Nat->Prop}{w:WD}{a:Option Addr}{n cap:Nat}{ns:List Nd}(h:Sl S w (.slice a n cap) ns)(hn:ns≠[]):∃g o,a=some ⟨g,o,none⟩/\gq S w ns g o/\ns.length<=cap:=by obtain⟨a',cap',h1,⟨hc,h6⟩,h2⟩:=h;cases h1;obtain⟨g,o,rfl,h4⟩:=h2 hn;exact⟨g,o,rfl,h4,hc⟩
theorem Sl.form{S:Nat->Prop}{w:WD}{v:Av}{ns:List Nd}(h:Sl S w v ns):∃a cap,v=.slice a ns.length cap:=by obtain⟨a,cap,h1,_⟩:=h;exact⟨a,cap,h1⟩
structure MC(S:Nat->Prop)(w:WD)(n:Nd)(g o:Nat)(kv:Av):Prop where
 s:S g
 c0:w.cell? ⟨g,o,none⟩=some (.int .i64 n.t.kind)
 c1:w.cell? ⟨g,o+1,none⟩=some (.string n.t.word)
 c2:w.cell? ⟨g,o+2,none⟩=some (.string n.t.unit)
 c3:w.cell? ⟨g,o+3,none⟩=some kv
 k:Sl S w kv n.kids
 ok:dI n.t
theorem gq.node{S:Nat->Prop}{w:WD}{l:List Nd}{g o i:Nat}(h:gq S w l g o)(hi:i<l.length):∃kv,MC S w l[i] g (o+i*4) kv:=by
 have h1:=h.at l g o i hi;obtain⟨t,k,e⟩:∃t k,l[i]=Nd.mk t k:=by cases l[i];exact⟨_,_,rfl⟩
 rw[e]at h1⊢;rw[MB]at h1;obtain⟨⟨h0,hok⟩,h1,h2,h3,kv,h4,h5⟩:=h1;exact⟨kv,h0,h1,h2,h3,h4,h5,hok⟩
theorem Sl.head{S:Nat->Prop}{w:WD}{v:Av}{x:Nd}{r:List Nd}(h:Sl S w v (x::r)):∃g o kv cap,v=.slice (some ⟨g,o,none⟩) (r.length+1) cap/\MC S w x g o kv/\r.length+1<=cap:=by obtain⟨a,cap,rfl⟩:=h.form;obtain⟨g,o,rfl,hL,hc⟩:=h.here Ab;obtain⟨kv,hN⟩:=hL.node (i:=0) Ab;exact⟨g,o,kv,cap,rfl,by simpa using hN,hc⟩
def tq(S:Nat->Prop)(w:WD):List Nd->List Av->Prop
 |[],cs=>cs=[]
 |n::r,cs=>∃kv rest,cs=[.int .i64 n.t.kind,.string n.t.word,.string n.t.unit,kv]++rest/\(Sl S w kv n.kids/\dI n.t)/\tq S w r rest
theorem tq.keep{S S':Nat->Prop}{w w':WD}(hS:∀g,S g->S' g)(hw:∀g,S g->w'.heap[g]?=w.heap[g]?):∀(l:List Nd) (cs:List Av),tq S w l cs->tq S' w' l cs
 |[],_,h=>h
 |_::r,_,⟨kv,rest,h1,h2,h3⟩=>⟨kv,rest,h1,⟨h2.1.keep hS hw,h2.2⟩,tq.keep hS hw r rest h3⟩
theorem tq.snoc{S:Nat->Prop}{w:WD}:∀(l:List Nd) (cs:List Av) (_:tq S w l cs) (n:Nd) (kv:Av) (_:Sl S w kv n.kids/\dI n.t),tq S w (l++[n]) (cs++[.int .i64 n.t.kind,.string n.t.word,.string n.t.unit,kv])
 |[],cs,h,n,kv,hk=>⟨kv,[],by simp[show cs=[] from h],hk,rfl⟩
 |m::r,cs,⟨kv',rest,h1,h2,h3⟩,n,kv,hk=>⟨kv',rest++[.int .i64 n.t.kind,.string n.t.word,.string n.t.unit,kv],by simp[h1],h2,tq.snoc r rest h3 n kv hk⟩
theorem tq.lies{S:Nat->Prop}{w:WD}{g:Nat}(hg:S g):∀(l:List Nd) (cs:List Av) (o:Nat) (_:tq S w l cs) (_:∀j u,cs[j]?=some u->w.cell? ⟨g,o+j,none⟩=some u),gq S w l g o
 |[],_,_,_,_=>by simp[gq]
 |.mk t k::r,cs,o,⟨kv,rest,h1,h2,h3⟩,hc=>by subst h1;unfold gq;rw[MB];refine⟨⟨⟨hg,h2.2⟩,hc 0 _ rfl,hc 1 _ rfl,hc 2 _ rfl,kv,hc 3 _ rfl,h2.1⟩,tq.lies hg r rest (o+4) h3 fun j u hu=>?_⟩;rw[show o+4+j=o+(j+4) from by omega];exact hc (j+4) u (by simpa using hu)
def DZ(base:Nat)(w:WD)(v:Av)(b:Nat):Prop:=base<=b/\b<w.heap.size/\some b≠v.ownBlock
def oD(base:Nat)(w:WD)(b:Nat):Prop:=base<=b/\b<w.heap.size
def Ei(T:TypeId)(base:Nat)(w:WD)(v:Av)(l:List Nd):Prop:=∃cs,w.ownsRow base T 4 v l.length cs/\tq (DZ base w v) w l cs
theorem Ei.nil(T:TypeId)(base:Nat)(w:WD):Ei T base w (.slice none 0 0) []:=⟨[],World.ownsRow_nil _ _ _ _,rfl⟩
theorem Ei.sl{T:TypeId}{base:Nat}{w:WD}{v:Av}{l:List Nd}(h:Ei T base w v l)(h6:l.length<=600):Sl (oD base w) w v l:=by
 obtain⟨cs,h1,h2⟩:=h;have h3:tq (oD base w) w l cs:=h2.keep (fun g hg=>⟨hg.1,hg.2.1⟩) (fun _ _=>rfl);rcases h1.2 with⟨rfl,hn⟩|⟨g,cap,cur,rfl,hbg,hg,hnc,hrest⟩
 .have:l=[]:=List.eq_nil_of_length_eq_zero hn;subst this;exact Sl.nil _ _
 .refine⟨_,cap,rfl,⟨hnc,h6⟩,fun _=>⟨g,0,rfl,tq.lies ⟨hbg,(Ay hg)⟩ l cs 0 h3 fun j u hu=>?_⟩⟩;have:=h1.cells (g:=g) rfl j u hu;rw[Addr.add_lit,Nat.zero_add]at this;rw[Nat.zero_add];exact this
theorem Ei.lt{T:TypeId}{base:Nat}{w:WD}{v:Av}{l:List Nd}(h:Ei T base w v l):∀k,v.ownBlock=some k->base<=k/\k<w.heap.size:=by obtain⟨cs,h1,_⟩:=h;exact h1.lt
theorem Ei.keep{T:TypeId}{base:Nat}{w w':WD}{v:Av}{l:List Nd}(h:Ei T base w v l)(hs:w.heap.size<=w'.heap.size)(hw:∀g,base<=g->g<w.heap.size->w'.heap[g]?=w.heap[g]?):Ei T base w' v l:=by
 obtain⟨cs,h1,h2⟩:=h;refine⟨cs,⟨h1.1,?_⟩,h2.keep (fun g hg=>⟨hg.1,by have:=hg.2.1;omega,hg.2.2⟩) (fun g hg=>hw g hg.1 hg.2.1)⟩;rcases h1.2 with hn|⟨g,cap,cur,rfl,hbg,hgg,rest⟩
 .exact .inl hn
 .exact .inr ⟨g,cap,cur,rfl,hbg,by rw[hw g hbg (Ay hgg)];exact hgg,rest⟩
theorem Ei.alloc{T:TypeId}{base:Nat}{w:WD}{v:Av}{l:List Nd}(h:Ei T base w v l)(o:Obj):Ei T base (w.alloc o) v l:=h.keep Ab fun g _ hg=>Below.heap_alloc _ _ _ hg
theorem Ei.form{T:TypeId}{base:Nat}{w:WD}{v:Av}{l:List Nd}(h:Ei T base w v l):∃a cap,v=.slice a l.length cap:=by
 obtain⟨cs,h1,_⟩:=h;rcases h1.2 with⟨rfl,hn⟩|⟨g,cap,cur,rfl,_⟩
 .exact⟨none,0,by rw[hn]⟩
 .exact⟨_,_,rfl⟩
theorem Ei.snoc{T:TypeId}{base:Nat}{w w2:WD}{v v2:Av}{l:List Nd}{cs:List Av}{n:Nd}{kv:Av}(h2:tq (DZ base w v) w l cs)(hk:Sl (DZ base w v) w kv n.kids)(hn:dI n.t)
  (hown:w2.ownsRow base T 4 v2 (l.length+1) (cs++[.int .i64 n.t.kind,.string n.t.word,.string n.t.unit,kv])) (hg:w.grownBy w2 v.ownBlock) (hat:v2.ownBlock=v.ownBlock\/v2.ownBlock=some w.heap.size):Ei T base w2 v2 (l++[n]):=by
 have hS:∀g,DZ base w v g->DZ base w2 v2 g:=by
  rintro g ⟨h3,h4,h5⟩;refine⟨h3,Nat.lt_of_lt_of_le h4 hg.size,?_⟩;rcases hat with e|e
  .rw[e];exact h5
  .rw[e];intro e2;cases e2;omega
 have hw:∀g,DZ base w v g->w2.heap[g]?=w.heap[g]?:=fun g hgg=>hg.block g hgg.2.1 hgg.2.2;refine⟨_,by rw[List.length_append];exact hown,tq.snoc _ _ (h2.keep hS hw) n kv ⟨hk.keep hS hw,hn⟩⟩
theorem Ei.apart{T:TypeId}{base:Nat}{w w3 W:WD}{v kv:Av}{l ks:List Nd}(h:Ei T base w v l)(hk:Sl (oD w.heap.size w3) w3 kv ks)(hbase:base<=w.heap.size)(hs:w3.heap.size<=W.heap.size)(hw:∀g,g<w3.heap.size->W.heap[g]?=w3.heap[g]?):Sl (DZ base W v) W kv ks:=hk.keep (fun g hg=>⟨by have:=hg.1;omega,by have:=hg.2;omega,fun e=>by have:=(h.lt g e.symm).2;have:=hg.1;omega⟩) fun g hg=>hw g hg.2
end
theorem Qr{a b:BY}(h:a=b):Ending.returned (.string a)=Ending.returned (.string b):=by rw[h]
theorem jf(t:Tok)(kv:Av)(x:BY)(w:WD):
  Calls prog 195 #[fB t kv,.string x] w fun e w'=>e=.returned (.bool (au t x))/\Below w.heap.size w w':=by
 unfold fB;cases h:(t.kind==15)
 .have HV:Hid (au t x=false):=by show _=_;simp at h;simp[au,h]
  go_in;go_wp2_with fail;go_ret;exact⟨aC HV.o.symm,Ax.alloc nl _⟩
 .have HV:Hid (au t x=(t.word.toList==x.toList)):=by show _=_;rw[bytes_beq];simp at h;simp[au,h]
  go_in;go_wp2_with fail;go_ret;exact⟨aC HV.o.symm,Ax.alloc nl _⟩
theorem G9(t:Tok)(w:WD):
  Calls prog 109 #[.agg #[.int .i64 t.kind,.string t.word,.string t.unit]] w fun e w'=>e=.returned (.string (closing t))/\Below w.heap.size w w':=by
 cases h11:(t.kind==11)
 .cases h15:(t.kind==15)
  .have HV:Hid (closing t=aA):=by show _=_;simp at h11 h15;simp[closing,h11,h15]
   go_in;go_wp2_with fail;go_ret;exact⟨Qr HV.o.symm,Ax.alloc nl _⟩
  .have e15:t.kind=15:=by simpa using h15
   cases Gt:(t.word.toList==[40])
   .cases KO:(t.word.toList==[91])
    .cases He:(t.word.toList==[123]);have HV:Hid (closing t=aA):=by show _=_;rw[ay]at Gt KO He;simp at Gt KO He;simp[closing,e15,b1,Gt,KO,He]
     rotate_left;have HV:Hid (closing t=b1 125):=by show _=_;rw[ay]at Gt KO He;simp at Gt KO He;simp[closing,e15,b1,He]
     rotate_left;all_goals
      clear e15;go_in;go_wp2_with fail;go_ret;exact⟨Qr HV.o.symm,Ax.alloc nl _⟩
    .have HV:Hid (closing t=b1 93):=by show _=_;rw[ay]at Gt KO;simp at Gt KO;simp[closing,e15,b1,KO]
     clear e15;go_in;go_wp2_with fail;go_ret;exact⟨Qr HV.o.symm,Ax.alloc nl _⟩
   .have HV:Hid (closing t=b1 41):=by show _=_;rw[ay]at Gt;simp at Gt;simp[closing,e15,b1,Gt]
    clear e15;go_in;go_wp2_with fail;go_ret;exact⟨Qr HV.o.symm,Ax.alloc nl _⟩
 .have HV:Hid (closing t=b1 41):=by show _=_;simp at h11;simp[closing,h11]
  go_in;go_wp2_with fail;go_ret;exact⟨Qr HV.o.symm,Ax.alloc nl _⟩
end Go.Proofs.YtlliliddljkbfaaGreat
namespace Go.Proofs.YtlliliddljkbfaaGreat.Sp
theorem pU{n:Nd}{r:List Nd}(h:n.t.kind=1):aH (n::r)=aH r:=by simp[aH,iH,h]
theorem pV{n:Nd}{r:List Nd}(h:¬n.t.kind=1):aH (n::r)=n::r:=by simp[aH,iH,h]
theorem Qs{l:List Nd}{n:Nd}(h:n.t.kind=1):lJ (l++[n])=lJ l:=by simp[lJ,pU h]
theorem Fa{l:List Nd}{n:Nd}(h:¬n.t.kind=1):lJ (l++[n])=l++[n]:=by simp[lJ,pV h]
theorem MF(l:List Nd):(aH l).length<=l.length:=by
 induction l with
 |nil=>simp[aH]
 |cons n r ih=>unfold aH;split<;>simp<;>omega
theorem Yr(l:List Nd):l=[]\/∃i x,l=i++[x]:=by
 rcases List.eq_nil_or_concat l with h|⟨i,x,h⟩
 .exact .inl h
 .exact .inr ⟨i,x,by simpa using h⟩
theorem Ah:∀(a:List Nd) (n:Nd),depth (a++[n])=max (depth a) (eU n)
 |[],n=>by simp[depth]
 |m::r,n=>by simp[depth,Ah r n,Nat.max_assoc]
theorem Ai:∀(l:List Nd) (n:Nd),n∈l->eU n<=depth l
 |m::r,n,h=>by
  rcases List.mem_cons.1 h with rfl|h
  .simp only[depth];omega
  .have:=Ai r n h;simp only[depth];omega
theorem Qu{n:Nd}(h:closing n.t=aA):eU n=0:=by cases n;unfold eU;exact if_pos h
theorem xE{n:Nd}(h:¬closing n.t=aA):eU n=depth n.kids+1:=by cases n;unfold eU;exact if_neg h
theorem tN:∀(f:Nat) (e:BY) (ts:List Tok),(mY f e ts).1.length+(mY f e ts).2.length<=ts.length
 |0,_,ts=>by simp[mY]
 |f+1,_,[]=>by simp[mY]
 |f+1,e,t::r=>by
  unfold mY;split
  .simp
  .have h1:=tN f (closing t) r;by_cases hc:closing t=aA
   .have h2:=tN f e r;simp only[if_pos hc,List.length_cons];omega
   .have h2:=tN f e (mY f (closing t) r).2;simp only[if_neg hc,List.length_cons];omega
theorem uZ:∀(n f:Nat) (e:BY) (ts:List Tok),ts.length<=n->n<=f->mY f e ts=mY n e ts
 |0,f,e,ts,h,_=>by obtain rfl:ts=[]:=List.eq_nil_of_length_eq_zero AF;cases f<;>simp[mY]
 |n+1,0,_,_,_,h=>by omega
 |n+1,f+1,e,[],_,_=>by simp[mY]
 |n+1,f+1,e,t::r,h,hf=>by
  simp only[List.length_cons]at h;have h1:=uZ n f (closing t) r AF AF;have hl:=tN n (closing t) r;unfold mY;rw[h1];by_cases hc:closing t=aA
  .simp only[if_pos hc,uZ n f e r (by omega) (by omega)]
  .simp only[if_neg hc,uZ n f e (mY n (closing t) r).2 (by omega) (by omega)]
theorem afR(f:Nat)(e:BY)(ts:List Tok)(h:ts.length<=f):mY f e ts=kids e ts:=uZ _ _ _ _ (Nat.le_refl _) h
theorem jB(e:BY):kids e []=([],[]):=by simp[kids,mY]
theorem ab3(e:BY)(ts:List Tok):(kids e ts).1.length+(kids e ts).2.length<=ts.length:=tN _ _ _
theorem qW(t:Tok)(r:List Tok):(inside t r).1.length+(inside t r).2.length<=r.length:=by
 unfold inside;split
 .simp
 .exact ab3 _ _
theorem qX{e:BY}{t:Tok}{r:List Tok}(h:e≠aA/\au t e=true):kids e (t::r)=([],r):=by simp only[kids,List.length_cons];unfold mY;rw[if_pos h]
theorem iy{e:BY}{t:Tok}{r:List Tok}(h:¬(e≠aA/\au t e=true)):kids e (t::r)=(.mk t (inside t r).1::(kids e (inside t r).2).1,(kids e (inside t r).2).2):=by
 have hl:=qW t r;have e1:(if closing t=aA then([],r) else mY r.length (closing t) r)=inside t r:=rfl;rw[<-afR r.length e (inside t r).2 (by omega)];simp only[kids,List.length_cons];conv=>lhs;unfold mY
 rw[if_neg h];rw[e1]
theorem ZP(n:Nat):∀(e:BY) (ts:List Tok),ts.length<=n->∃k,k<=ts.length/\(kids e ts).2=ts.drop k:=by
 induction n with
 |zero=>intro e ts h;obtain rfl:ts=[]:=List.eq_nil_of_length_eq_zero AF;exact⟨0,by simp,by simp[jB]⟩
 |succ n ih=>
  intro e ts h;cases ts with
  |nil=>exact⟨0,by simp,by simp[jB]⟩
  |cons t r=>
   simp only[List.length_cons]at h;by_cases hc:e≠aA/\au t e=true
   .exact⟨1,by simp,by simp[qX hc]⟩
   .rw[iy hc];have hi:∃k,k<=r.length/\(inside t r).2=r.drop k:=by
     unfold inside;split
     .exact⟨0,by simp,by simp⟩
     .exact ih _ r AF
    obtain⟨k,hk,hk2⟩:=hi;obtain⟨m,hm,hm2⟩:=ih e (inside t r).2 (by rw[hk2];simp;omega);refine⟨k+m+1,?_,?_⟩
    .rw[hk2]at hm;simp at hm⊢;omega
    .show(kids e (inside t r).2).2=_;rw[hm2,hk2,List.drop_drop];rfl
theorem Fb(t:Tok)(r:List Tok):∃k,k<=r.length/\(inside t r).2=r.drop k:=by
 unfold inside;split
 .exact⟨0,by simp,by simp⟩
 .exact ZP _ _ r (Nat.le_refl _)
end Go.Proofs.YtlliliddljkbfaaGreat.Sp
namespace Go.Proofs.YtlliliddljkbfaaGreat
open Go.Proofs.Tryz (prog)
open Go.RowKit Sp
theorem tu(B:Nat)(l:List Nd)(v:Av)(w:WD)(h:Sl (fun b=>b<B) w v l):
  Calls prog 120 #[v] w fun e w'=>∃v',e=.returned v'/\Sl (fun b=>b<B) w v' (bare l)/\w'=w:=by
 have hl:=h.len;have HS:=hid h;obtain⟨a,cap,rfl⟩:=h.form;clear h;go_in;go_wp2_with fail;go_loopg[0] l.length (fun g v0 wr=>∃(cur:List Nd) (a:Option Addr) (cap:Nat),v0=.slice a cur.length cap/\g=cur.length/\cur.length<=600/\Aside (Sl (fun b=>b<B) w (.slice a cur.length cap) cur/\aH cur=aH l/\wr=w));case atStart=>exact⟨l,a,cap,rfl,rfl,hl,HS.o,rfl,rfl⟩
 case round=>
  obtain⟨cur,a,cap,rfl,rfl,FU,hA⟩:=hrel;have HC:=hid hA.o.1;have HD:=hid hA.o.2.1;obtain rfl:=hA.o.2.2;clear hA HS hl;by_cases hx:∃n r,cur=n::r/\n.t.kind=1
  .obtain⟨n,r,rfl,hk⟩:=hx;obtain⟨g,o,rfl,hL,hcap⟩:=HC.o.here Ab;obtain⟨kv,hN⟩:=hL.node (i:=0) Ab;have c0:=hN.c0;have HT:=hid HC.o.tail;have HD2:Hid (aH r=aH l):=by show _=_;rw[<-HD.o,pU hk]
   have hb:(n.t.kind==1)=true:=by simpa using hk
   clear hN hL hk HC HD;simp only[Nat.zero_mul,Nat.add_zero,List.getElem_cons_zero,List.length_cons]at *;go_wp2_with fail
   .go_roundg r.length;case measure=>omega
    case rel=>have e:r=[]:=List.eq_nil_of_length_eq_zero oo;subst e;exact⟨[],_,_,rfl,rfl,by simp,Sl.iE _ _ _ _,HD2.o,rfl⟩
   .go_roundg r.length;case measure=>omega
    case rel=>exact⟨r,_,_,rfl,rfl,oo,HT.o,HD2.o,rfl⟩
  .have HE:Hid (aH l=cur):=by
    show _=_;rw[<-HD.o];cases cur with
    |nil=>rfl
    |cons n r=>exact pV (fun e=>hx ⟨n,r,rfl,e⟩)
   clear HD;cases cur with
   |nil=>
    clear hx;simp only[List.length_nil]at *;go_wp2_with fail;go_loopg[0] 0 (fun g v0 wq=>v0=.slice a 0 cap/\Aside (wr=wq));case atStart=>exact⟨rfl,rfl⟩
    case round=>obtain⟨rfl,hA⟩:=hrel;obtain rfl:=hA.o;clear hA;go_wp2_with fail;go_ret;exact⟨_,rfl,by unfold bare;rw[HE.o];exact Sl.iE _ _ _ _,rfl⟩
   |cons n r=>
    obtain⟨g,o,rfl,hL,hcap⟩:=HC.o.here Ab;obtain⟨kv,hN⟩:=hL.node (i:=0) Ab;have c0:=hN.c0;have hb:(n.t.kind==1)=false:=by simp;exact fun e=>hx ⟨n,r,rfl,e⟩
    clear hN hx;simp only[Nat.zero_mul,Nat.add_zero,List.getElem_cons_zero,List.length_cons]at *;go_wp2_with fail;obtain⟨all,hall⟩:∃all,all=n::r:=⟨_,rfl⟩;have HN:Hid (r.length+1=all.length):=by rw[hall];rfl
    have hal:all.length<=600:=by rw[<-HN.o];exact FU
    have hac:all.length<=cap:=by rw[<-HN.o];exact hcap
    have HL:Hid (gq (fun b=>b<B) wr all g o):=by rw[hall];exact hL
    have HC2:Hid (Sl (fun b=>b<B) wr (.slice (some ⟨g,o,none⟩) (r.length+1) cap) all):=by rw[hall];exact HC.o
    rw[<-hall]at HE;clear hL HC hall c0 hb;go_loopg[0] all.length (fun g' v0 wq=>∃(j:Nat),j<=all.length/\v0=.slice (some ⟨g,o,none⟩) j cap/\g'=j/\Aside (lJ (all.take j)=lJ all/\wr=wq));case atStart=>exact⟨all.length,Nat.le_refl _,by rw[<-HN.o],rfl,by simp,rfl⟩
    case round=>
     obtain⟨j,hj,rfl,hjg,hA⟩:=hrel;subst hjg;have HT:=hid hA.o.1;obtain rfl:=hA.o.2;clear hA;by_cases hj0:gk=0
     .subst hj0;go_wp2_with fail;go_ret;refine⟨_,rfl,?_,rfl⟩;unfold bare;rw[HE.o,<-HT.o];exact Sl.iE _ _ _ _
     .have h1:(0:Int)<(gk:Int):=oo;obtain⟨kv,hN⟩:=HL.o.node (i:=gk-1) oo;have c0:=hN.c0;have e1:all.take gk=all.take (gk-1)++[all[gk-1]]:=by
       conv=>lhs;rw[show gk=gk-1+1 from by omega]
       rw[List.take_succ_eq_append_getElem oo]
      clear hN;obtain⟨x,hxx⟩:∃x,x=all[gk-1]:=⟨_,rfl⟩;rw[<-hxx]at c0 e1;have E1:=hid e1;clear hxx e1;cases hb:(x.t.kind==1)
      .have HV:Hid (bare l=all.take gk):=by
        show _=_;unfold bare;rw[HE.o,<-HT.o,E1.o,Fa (by simpa using hb)]
       go_wp2_with fail;go_ret;refine⟨_,rfl,?_,rfl⟩;rw[HV.o];exact HC2.o.init gk hj
      .have HV:Hid (lJ (all.take (gk-1))=lJ all):=by
        show _=_;rw[<-HT.o,E1.o,Qs (by simpa using hb)]
       go_wp2_with fail;go_roundg(gk-1);case measure=>omega
       case rel=>exact⟨gk-1,oo,rfl,rfl,HV.o,rfl⟩
section
section
variable {w w':WD} {g:Nat} {a b c d:Av}
end
def qF(w:WD)(g:Nat)(a b c d:Av):WD:=(((w.setCell ⟨g,0,none⟩ a).setCell ⟨g,1,none⟩ b).setCell ⟨g,2,none⟩ c).setCell ⟨g,3,none⟩ d
theorem oO{B g:Nat}{x w:WD}(h:Below B x w)(hg:B<=g)(a b c d:Av):Below B x (qF w g a b c d):=(((h.setCell hg a).setCell hg b).setCell hg c).setCell hg d
theorem jv(w:WD){g k:Nat}(h:k≠g)(a b c d:Av):(qF w g a b c d).heap[k]?=w.heap[k]?:=by unfold qF;rw[Below.heap_setCell _ _ _ _ h,Below.heap_setCell _ _ _ _ h,Below.heap_setCell _ _ _ _ h,Below.heap_setCell _ _ _ _ h]
end
section
theorem qY{P:Program}{ops:Array Oper}{o:Oper}{a:Act}{w:WD}{K:Act->WD->Prop}{Q:Exit->Act->WD->Prop}{E:Prop}
  (hg:o.guard=none) (s x:Operand) (t:TypeId) (hop:o.op=Op.call { callee:=Callee.builtin Builtin.append,args:=#[s,x],argTypes:=#[t,t] })
  (base:Nat) (e:TypeId) (i:TypeInfo) (z:Av) (size bytes:Nat) (h1:P.underlying t=some (.slice e)) (h2:P.info? e=some i) (h3:i.zero=some z) (h4:i.size=size) (h5:i.bytes=bytes) (h6:z.cells.size=size) (h7:0<size)
  (v:Av) (n:Nat) (xs:List Av) (hs:a.eval s=v) (hown:w.ownsRow base e size v n xs)
  (ad:Addr) (m c:Nat) (news:List Av) (hx:a.eval x=.slice (some ad) m c) (hn:news.length=m*size) (hc:∀j u,news[j]?=some u->w.cell? (ad.add j)=some u) (h1c:∀u∈news,u.oneCell'=true)
  (b1:n+m<=maxLen) (b2:(n+m)*bytes<=140737488355328) (hbase:base<=w.heap.size)
  (hK:∀v' w',w'.ownsRow base e size v' (n+m) (xs++news)->w.grownBy w' v.ownBlock->(v'.ownBlock=v.ownBlock\/v'.ownBlock=some w.heap.size)->K (a.put o.dst v') w'):
  if Region.wanted o (yielded ops a.tmps)=true then Oper.wp P o a w K Q else E:=by
 have hw:Region.wanted o (yielded ops a.tmps)=true:=by simp[Region.wanted,hg]
 rw[if_pos hw];obtain⟨v',w',hr,r1,r2,_,r4⟩:=run_append_own_at (P:=P) w base t o.type e i z size bytes h1 h2 h3 h4 h5 h6 h7 v n xs hown ad m c news hn hc h1c b1 b2 hbase;unfold Oper.wp;simp[execOp,hop,resolve,invoke,builtin,hs,hx,hr,Result.andThen];exact hK v' w' r1 r2 r4
theorem Vu(w:WD)(a b c d:Av)(t:TypeId):∀j u,[a,b,c,d][j]?=some u->(w.alloc (.cells #[a,b,c,d] t)).cell? ((⟨w.heap.size,0,none⟩:Addr).add j)=some u:=by intro j u hu;rw[Addr.add_lit,Nat.zero_add,World.cell?_alloc_mark,<-hu];simp
def Hf(S:Nat->Prop)(w:WD):List (List Nd)->List Av->Prop
 |[],vs=>vs=[]
 |l::r,vs=>∃v rest,vs=v::rest/\Sl S w v l/\Hf S w r rest
theorem Hf.keep{S S':Nat->Prop}{w w':WD}(hS:∀g,S g->S' g)(hw:∀g,S g->w'.heap[g]?=w.heap[g]?):∀(l:List (List Nd)) (vs:List Av),Hf S w l vs->Hf S' w' l vs
 |[],_,h=>h
 |_::r,_,⟨v,rest,h1,h2,h3⟩=>⟨v,rest,h1,h2.keep hS hw,Hf.keep hS hw r rest h3⟩
theorem Hf.snoc{S:Nat->Prop}{w:WD}:∀(l:List (List Nd)) (vs:List Av) (_:Hf S w l vs) (x:List Nd) (v:Av) (_:Sl S w v x),Hf S w (l++[x]) (vs++[v])
 |[],vs,h,x,v,hv=>⟨v,[],by simp[show vs=[] from h],hv,rfl⟩
 |_::r,_,⟨v',rest,h1,h2,h3⟩,x,v,hv=>⟨v',rest++[v],by simp[h1],h2,Hf.snoc r rest h3 x v hv⟩
theorem Hf.at{S:Nat->Prop}{w:WD}:∀(l:List (List Nd)) (vs:List Av) (_:Hf S w l vs) (k:Nat) (hk:k<l.length),∃v,vs[k]?=some v/\Sl S w v l[k]
 |_::_,_,⟨v,rest,h1,h2,_⟩,0,_=>⟨v,by simp[h1],h2⟩
 |_::r,_,⟨_,rest,h1,_,h3⟩,k+1,hk=>by obtain⟨v,e,h⟩:=Hf.at r rest h3 k (by simpa using hk);exact⟨v,by simp[h1,e],by simpa using h⟩
theorem kQ{w:WD}{base e s n:Nat}{v:Av}{xs:List Av}(h:w.ownsRow base e s v n xs):∃a c,v=.slice a n c:=by
 rcases h.2 with⟨rfl,rfl⟩|⟨g,cap,cur,rfl,_⟩
 .exact⟨none,0,rfl⟩
 .exact⟨_,_,rfl⟩
theorem ZQ{w:WD}{base e1 e2 s1 s2 n1 n2:Nat}{v1 v2:Av}{x1 x2:List Av}(h1:w.ownsRow base e1 s1 v1 n1 x1)(h2:w.ownsRow base e2 s2 v2 n2 x2)(he:e1≠e2)(b:Nat)(hb:v1.ownBlock=some b):v2.ownBlock≠some b:=by
 rcases h1.2 with⟨rfl,_⟩|⟨g,cap,cur,rfl,_,hg,_⟩
 .cases hb
 .rcases h2.2 with⟨rfl,_⟩|⟨g',cap',cur',rfl,_,hg',_⟩
  .simp[Value.ownBlock]
  .simp only[Value.ownBlock,Option.some.injEq]at hb⊢;subst hb;intro e;injection e with e
   subst e;rw[hg]at hg';simp at hg';exact he hg'.2
section
variable {B base:Nat} {w w3:WD} {vo cv:Av} {fin:List (List Nd)} {cur:List Nd} {fvs cs:List Av}
theorem ab4(cs:List Av)(k:Nat)(hk:cs.length=k*4)(z0 z1 z2 z3 a b c d:Av):((((cs++[z0,z1,z2,z3]).set (k*4) a).set (k*4+1) b).set (k*4+2) c).set (k*4+3) d=cs++[a,b,c,d]:=by rw[<-hk];rw[List.set_append_right _ _ oo,List.set_append_right _ _ oo,List.set_append_right _ _ oo,List.set_append_right _ _ oo];simp
theorem Gu{w:WD}{base e s n:Nat}{v:Av}{xs:List Av}(h:w.ownsRow base e s v (n+1) xs):∃g c,v=.slice (some ⟨g,0,none⟩) (n+1) c:=by
 rcases h.2 with⟨_,hn⟩|⟨g,cap,cur,rfl,_⟩
 .omega
 .exact⟨_,_,rfl⟩
theorem Qv{w:WD}{base e g n cap:Nat}{cs:List Av}{z0 z1 z2 z3:Av}(h:w.ownsRow base e 4 (.slice (some ⟨g,0,none⟩) (n+1) cap) (n+1) (cs++[z0,z1,z2,z3]))(hl:cs.length=n*4):
  w.cell? ⟨g,n*4,none⟩=some z0/\w.cell? ⟨g,n*4+1,none⟩=some z1/\w.cell? ⟨g,n*4+2,none⟩=some z2/\w.cell? ⟨g,n*4+3,none⟩=some z3:=by
 refine⟨?_,?_,?_,?_⟩;all_goals
  rw[h.cellAt _ oo,List.getElem?_append_right oo];simp[hl]
theorem MC.below{n:Nd}{g o:Nat}{kv:Av}(h:MC (fun b=>b<B) w n g o kv)(hb:Below B w w3):MC (fun b=>b<B) w3 n g o kv:=by have hcell:∀q,w3.cell? ⟨g,q,none⟩=w.cell? ⟨g,q,none⟩:=fun q=>hb.cell (show g<B from h.s);exact⟨h.s,by rw[hcell];exact h.c0,by rw[hcell];exact h.c1,by rw[hcell];exact h.c2,by rw[hcell];exact h.c3,h.k.below hb nl,h.ok⟩
end
end
section
theorem bI(a b c d:Av)(w:WD):(Instr.field 199 (.agg #[a,b,c,d]) 0).run prog w=.ok (.agg #[a,b,c]) w:=by kernel_rfl
theorem bJ(a b c d:Av)(w:WD):(Instr.field 199 (.agg #[a,b,c,d]) 1).run prog w=.ok d w:=by kernel_rfl
theorem aX(a b c:Av)(w:WD):(Instr.field 93 (.agg #[a,b,c]) 0).run prog w=.ok a w:=by kernel_rfl
theorem aY(a b c:Av)(w:WD):(Instr.field 93 (.agg #[a,b,c]) 1).run prog w=.ok b w:=by kernel_rfl
attribute [local go_sem] bI bJ aX aY
structure fV(B:Nat)(w:WD)(b:Nat)(sv:Av)(l:List Nd):Prop where
 blk:w.heap[b]?=some (.cells #[sv] 270 (0,0))
 sl:Sl (fun k=>k<B) w sv l
 lo:B<=b
theorem Turn.trans'{c:Nat}{w wr w':WD}(h:Turn c w wr)(hb:Below w.heap.size wr w'):Turn c w w':=⟨hb.os.trans h.os,hb.tape.trans h.tape,hb.output.trans h.output,Nat.le_trans h.size hb.size,fun k hk hc=>(hb.block k hk).trans (h.block k hk hc)⟩
section
variable {B:Nat} {w w':WD} {b:Nat} {sv sv':Av} {l l':List Nd}
theorem fV.lt(h:fV B w b sv l):b<w.heap.size:=(Ay h.blk)
theorem fV.c0(h:fV B w b sv l):w.cell? ⟨b,0,none⟩=some sv:=by unfold World.cell?;rw[h.blk];rfl
theorem fV.f0(h:fV B w b sv l):w.frozen? ⟨b,0,none⟩=false:=by unfold World.frozen?;rw[h.blk];rfl
theorem fV.below(h:fV B w b sv l)(hb:Below w.heap.size w w'):fV B w' b sv l:=⟨by rw[hb.block b h.lt];exact h.blk,h.sl.below hb (by have:=h.lt;have:=h.lo;omega),h.lo⟩
theorem fV.turn(h:fV B w b sv l){c:Nat}(hb:Turn c w w')(hc:b<c):fV B w' b sv l:=⟨by rw[hb.block b h.lt oo];exact h.blk,h.sl.keep (fun _ hg=>hg) (fun g hg=>by have hg':g<B:=hg;have:=h.lo;have:=h.lt;exact hb.block g oo oo),h.lo⟩
theorem fV.alloc(h:fV B w b sv l)(o:Obj):fV B (w.alloc o) b sv l:=h.below (Ax.alloc nl _)
theorem fV.set(h:fV B w b sv l)(hs:Sl (fun k=>k<B) w sv' l'):fV B (w.setCell ⟨b,0,none⟩ sv') b sv' l':=by refine⟨?_,hs.keep (fun _ hg=>hg) (fun g hg=>Below.heap_setCell _ _ _ _ (by have hg':g<B:=hg;have:=h.lo;show g≠b;omega)),h.lo⟩;simp only[World.setCell,Array.getElem?_modify,h.blk];simp
theorem fV.far(h:fV B w b sv l){k:Nat}(hk:b<k)(o:Nat)(u:Av):fV B (w.setCell ⟨k,o,none⟩ u) b sv l:=⟨by rw[Below.heap_setCell _ _ _ _ (by show b≠k;omega)];exact h.blk,h.sl.keep (fun _ hg=>hg) (fun g hg=>Below.heap_setCell _ _ _ _ (by have hg':g<B:=hg;have:=h.lo;show g≠k;omega)),h.lo⟩
theorem Turn.far{c:Nat}(h:Turn c w w'){k:Nat}(hk:w.heap.size<=k)(o:Nat)(u:Av):Turn c w (w'.setCell ⟨k,o,none⟩ u):=h.trans' ⟨rfl,rfl,rfl,by simp[World.setCell],fun j hj=>Below.heap_setCell _ _ _ _ (by show j≠k;omega)⟩
theorem Sl.far{v:Av}{k:Nat}(h:Sl (fun b=>b<B) w v l)(hk:B<=k)(o:Nat)(u:Av):Sl (fun b=>b<B) (w.setCell ⟨k,o,none⟩ u) v l:=h.keep (fun _ hg=>hg) (fun g hg=>Below.heap_setCell _ _ _ _ (by have hg':g<B:=hg;show g≠k;omega))
theorem fV.len(h:fV B w b sv l):l.length<=600:=h.sl.len
end
def VB(w:WD)(b:Nat)(x0 x1 x2 x3:Av):Prop:=w.heap[b]?=some (.cells #[x0,x1,x2,x3] 199 (0,0))
section
variable {w w':WD} {b:Nat} {x0 x1 x2 x3:Av}
theorem VB.lt(h:VB w b x0 x1 x2 x3):b<w.heap.size:=(Ay h)
theorem VB.cs(h:VB w b x0 x1 x2 x3):w.cell? ⟨b,0,none⟩=some x0/\w.cell? ⟨b,1,none⟩=some x1/\w.cell? ⟨b,2,none⟩=some x2/\w.cell? ⟨b,3,none⟩=some x3:=by have h':w.heap[b]?=_:=h;refine⟨?_,?_,?_,?_⟩<;>(unfold World.cell?;rw[h'];rfl)
theorem VB.fz(h:VB w b x0 x1 x2 x3)(o:Nat):w.frozen? ⟨b,o,none⟩=false:=by have h':w.heap[b]?=_:=h;unfold World.frozen?;rw[h'];simp
theorem VB.below(h:VB w b x0 x1 x2 x3)(hb:Below w.heap.size w w'):VB w' b x0 x1 x2 x3:=by show _=_;rw[hb.block b h.lt];exact h
theorem VB.turn(h:VB w b x0 x1 x2 x3){c:Nat}(hb:Turn c w w')(hc:b≠c):VB w' b x0 x1 x2 x3:=by show _=_;rw[hb.block b h.lt hc];exact h
theorem VB.alloc(h:VB w b x0 x1 x2 x3)(o:Obj):VB (w.alloc o) b x0 x1 x2 x3:=h.below (Ax.alloc nl _)
theorem VB.new(w:WD)(x0 x1 x2 x3:Av):VB (w.alloc (.cells #[x0,x1,x2,x3] 199)) w.heap.size x0 x1 x2 x3:=heap_alloc_new w _
end
def hdN:List Nd->Nd
 |[]=>.mk (Tok.k 0) []
 |n::_=>n
theorem vg(B b:Nat)(sv:Av)(l:List Nd)(w:WD)(h:fV B w b sv l):
  Calls prog 197 #[.pointer (some ⟨b,0,none⟩)] w fun e w'=>e=.returned (.bool (l.length==0))/\w'=w:=by
 obtain⟨a,cap,rfl⟩:=h.sl.form;have c0:=h.c0;have hl:=h.len;clear h;have HV:Hid (((l.length:Int)==0)=(l.length==0)):=by show _=_;rw[Bool.eq_iff_iff];simp
 go_in;go_wp2_with fail;go_ret;exact⟨aC HV.o,rfl⟩
theorem Hg(B b:Nat)(sv:Av)(l:List Nd)(w:WD)(h:fV B w b sv l):
  Calls prog 253 #[.pointer (some ⟨b,0,none⟩)] w fun e w'=>∃kv,e=.returned (fB (hdN l).t kv)/\Sl (fun k=>k<B) w' kv (hdN l).kids/\Below w.heap.size w w':=by
 have R1:∀o,Hid (fV B (w.alloc o) b sv l):=fun o=>h.alloc o;have hlo:=h.lo;have hlt:=h.lt;cases l with
 |nil=>clear h;go_in;go_wp2_with fail;refine(vg B b sv [] _ (R1 _).o).mono ?_;rintro e w1 ⟨rfl,rfl⟩;go_wp2_with fail;refine bodyPost_ret (v:=fB (Tok.k 0) (.slice none 0 0)) (by simp[results,Tryz.results253,go_sem,fB,Tok.k];rfl) rfl ?_;exact⟨_,rfl,Sl.nil _ _,Ax.alloc nl _⟩
 |cons n r=>
  obtain⟨g,o,kv,cap,rfl,hN,hcap⟩:=h.sl.head;have hgB:g<B:=hN.s;have HN:=hid hN;have hrl:=h.len;simp only[List.length_cons]at hrl;have hn0:¬((r.length:Int)+1<=0):=oo;clear h hN;go_in;go_wp2_with fail;refine(vg B b _ (n::r) _ (R1 _).o).mono ?_;rintro e w1 ⟨rfl,rfl⟩;have c0:=(R1 (.cells #[.int .i64 0,.string ⟨#[]⟩,.string ⟨#[]⟩,.slice none 0 0] 199)).o.c0;have N1:=HN.o.below ((Below.refl B w).alloc (show B<=w.heap.size by omega) (.cells #[.int .i64 0,.string ⟨#[]⟩,.string ⟨#[]⟩,.slice none 0 0] 199));have d0:=N1.c0;have d1:=N1.c1;have d2:=N1.c2;have d3:=N1.c3;obtain⟨ka,kc,rfl⟩:=HN.o.k.form;go_wp2_with fail;refine bodyPost_ret (v:=fB n.t (.slice ka n.kids.length kc)) (by simp[results,Tryz.results253,go_sem,fB]) rfl ?_
  exact⟨_,rfl,HN.o.k.below ((Below.refl w.heap.size w).alloc nl _) oo,Ax.alloc nl _⟩
theorem yZ:∃i,prog.info? 199=some i/\i.zero=some (.agg #[.int .i64 0,.string ⟨#[]⟩,.string ⟨#[]⟩,.slice none 0 0])/\i.size=4/\i.bytes=64:=info_parts Ao
theorem Sl.MH{S:Nat->Prop}{w:WD}{a:Option Addr}{n cap:Nat}{x:Nd}{r:List Nd}(h:Sl S w (.slice a n cap) (x::r)):
  ∃a',(∀W:WD,(Instr.slice 128 (.slice a (r.length+1) cap) (some (.int .i64 1)) none none).run prog W=.ok (.slice a' r.length (cap-1)) W)/\Sl S w (.slice a' r.length (cap-1)) r:=by
 obtain⟨iT,h1,_,h3,_⟩:=yZ;refine⟨if cap=1 then a else a.map (·.add (1*4)),fun W=>?_,?_⟩
 .rw[run_slice_l (P:=prog) W 128 a (r.length+1) cap Tryz.underlying128 .i64 1 oo oo];have e:prog.elem 128=199:=by kernel_rfl
  simp[sizeOf,typeInfo,e,h1,h3,sliced,Result.andThen]
 .have:=h.cut 1 (r.length+1) oo Ab;simpa[sliced]using this
theorem sN(B b:Nat)(sv:Av)(l:List Nd)(w:WD)(h:fV B w b sv l):
  Calls prog 254 #[.pointer (some ⟨b,0,none⟩)] w fun e w'=>∃kv sv',e=.returned (fB (hdN l).t kv)/\Sl (fun k=>k<B) w' kv (hdN l).kids/\fV B w' b sv' l.tail/\Turn b w w':=by
 have R1:∀o,Hid (fV B (w.alloc o) b sv l):=fun o=>h.alloc o;have hlo:=h.lo;have hlt:=h.lt;have FU:=h.len;clear h;have T1:∀o,Hid (Turn b w (w.alloc o)):=fun o=>(Turn.refl b w).alloc o;have z1:∀o,w.heap.size<(w.alloc o).heap.size:=fun o=>by simp
 go_in;go_wp2_with fail;generalize hW:w.alloc (.cells #[.int .i64 0,.string ⟨#[]⟩,.string ⟨#[]⟩,.slice none 0 0] 199)=w1 at *;have R2:Hid (fV B w1 b sv l):=by rw[<-hW];exact R1 _
 have T2:Hid (Turn b w w1):=by rw[<-hW];exact T1 _
 have Z2:Hid (w1.heap[w.heap.size]?=some (.cells #[.int .i64 0,.string ⟨#[]⟩,.string ⟨#[]⟩,.slice none 0 0] 199 (0,0))):=by rw[<-hW];exact heap_alloc_new w _
 clear hW R1 T1 z1;obtain⟨gr,Hgr⟩:=Nm w.heap.size;rw[Hgr.o]at Z2⊢;have Z2':Hid (VB w1 gr (.int .i64 0) (.string ⟨#[]⟩) (.string ⟨#[]⟩) (.slice none 0 0)):=Z2;clear Z2;refine(Hg B b sv l _ R2.o).mono ?_;rintro e w2 ⟨kv,rfl,hk,hb2⟩;have R3:=hid (R2.o.below hb2);have T3:=hid (T2.o.trans (Turn.of_below hb2));have Z3:=hid (Z2'.o.below hb2);obtain⟨n,Hn⟩:=Nm (hdN l);rw[Hn.o]at hk⊢;obtain⟨ka,kc,rfl⟩:=hk.form;have HK3:=hid hk;clear hk hb2 R2 T2 Z2';unfold fB
 have A4:Hid (VB (w2.alloc (.cells #[.int .i64 n.t.kind,.string n.t.word,.string n.t.unit,.slice ka n.kids.length kc] 199)) w2.heap.size (.int .i64 n.t.kind) (.string n.t.word) (.string n.t.unit) (.slice ka n.kids.length kc)):=VB.new _ _ _ _ _;have R4:Hid (fV B (w2.alloc (.cells #[.int .i64 n.t.kind,.string n.t.word,.string n.t.unit,.slice ka n.kids.length kc] 199)) b sv l):=R3.o.alloc _;have T4:Hid (Turn b w (w2.alloc (.cells #[.int .i64 n.t.kind,.string n.t.word,.string n.t.unit,.slice ka n.kids.length kc] 199))):=T3.o.alloc _;have Z4:Hid (VB (w2.alloc (.cells #[.int .i64 n.t.kind,.string n.t.word,.string n.t.unit,.slice ka n.kids.length kc] 199)) gr (.int .i64 0) (.string ⟨#[]⟩) (.string ⟨#[]⟩) (.slice none 0 0)):=Z3.o.alloc _
 have K4:Hid (Sl (fun k=>k<B) (w2.alloc (.cells #[.int .i64 n.t.kind,.string n.t.word,.string n.t.unit,.slice ka n.kids.length kc] 199)) (.slice ka n.kids.length kc) n.kids):=HK3.o.below ((Below.refl w2.heap.size w2).alloc nl _) (by have:=R3.o.lt;omega);have hgz:gr<w2.heap.size:=Z3.o.lt;have hbz:b<w2.heap.size:=R3.o.lt;have hbg:¬b=gr:=by have:=Hgr.o;omega
 clear R3 T3 Z3 HK3;go_upto_region 2 with fail
 generalize w2.alloc (.cells #[.int .i64 n.t.kind,.string n.t.word,.string n.t.unit,.slice ka n.kids.length kc] 199)=w4 at *;generalize w2.heap.size=gt at *;go_wp2_with fail;refine(vg B b sv l _ R4.o).mono ?_;rintro e w5 ⟨rfl,rfl⟩;obtain⟨a0,a1,a2,a3⟩:=A4.o.cs;have z0:=Z4.o.fz 0;have z1:=Z4.o.fz 1;have z2:=Z4.o.fz 2;have z3:=Z4.o.fz 3;obtain⟨y0,y1,y2,y3⟩:=Z4.o.cs;have hgg:¬gt=gr:=oo;have hbt:¬b=gt:=oo;cases l with
 |nil=>go_wp2_with fail;refine bodyPost_ret (v:=fB n.t (.slice ka n.kids.length kc)) (by simp[results,Tryz.results254,go_sem,fB,y0,y1,y2,y3]) rfl ?_;have hgr:=Hgr.o;exact⟨_,sv,by rw[Hn.o],by rw[Hn.o];exact(((K4.o.far oo _ _).far oo _ _).far oo _ _).far oo _ _,(((R4.o.far oo _ _).far oo _ _).far oo _ _).far oo _ _,(((T4.o.far oo _ _).far oo _ _).far oo _ _).far oo _ _⟩
 |cons m r=>obtain⟨g,o,kv2,cap,rfl,hN,hcap⟩:=R4.o.sl.head;obtain⟨a',hcut,hS⟩:=R4.o.sl.MH;have c0:=R4.o.c0;have f0:=R4.o.f0;simp only[List.length_cons]at FU;go_wp2_with fail;have R6:=R4.o.set hS;refine bodyPost_ret (v:=fB n.t (.slice ka n.kids.length kc)) (by simp[results,Tryz.results254,go_sem,fB,y0,y1,y2,y3]) rfl ?_;have hgr:=Hgr.o;exact⟨_,_,by rw[Hn.o],by rw[Hn.o];exact((((K4.o.far oo _ _).far oo _ _).far oo _ _).far oo _ _).far oo _ _,(((R6.far oo _ _).far oo _ _).far oo _ _).far oo _ _,((((T4.o.setCell _ _).far oo _ _).far oo _ _).far oo _ _).far oo _ _⟩
def zy(s:BY)(l:List Nd):List Nd:=if au (hdN l).t s=true then l.tail else l
theorem y5{s:BY}{l:List Nd}(h:au (hdN l).t s=false):zy s l=l:=by unfold zy;rw[h];rfl
theorem qZ{s:BY}{l:List Nd}(h:au (hdN l).t s=true):zy s l=l.tail:=by unfold zy;rw[if_pos h]
theorem oP(B b:Nat)(sv:Av)(l:List Nd)(s:BY)(w:WD)(h:fV B w b sv l):
  Calls prog 255 #[.pointer (some ⟨b,0,none⟩),.string s] w fun e w'=>∃sv',e=.returned (.bool (au (hdN l).t s))/\fV B w' b sv' (zy s l)/\Turn b w w':=by
 have R1:=hid h;clear h;go_in;go_wp2_with fail;refine(Hg B b sv l _ R1.o).mono ?_;rintro e w1 ⟨kv,rfl,_,hb1⟩;have R2:=hid (R1.o.below hb1);have T2:Hid (Turn b w w1):=Turn.of_below hb1;clear hb1 R1;go_wp2_with fail;refine pmb (jf _ kv s _) fun w2 hb2=>?_;have R3:=hid (R2.o.below hb2);have T3:=hid (T2.o.trans (Turn.of_below hb2));clear hb2 R2 T2;obtain⟨c,Hc⟩:=Nm (au (hdN l).t s);rw[Hc.o];cases c
 .go_wp2_with fail;go_ret;exact⟨_,aC Hc.o.symm,by rw[y5 Hc.o];exact R3.o,T3.o⟩
 .go_wp2_with fail;refine(sN B b sv l _ R3.o).mono ?_;rintro e w4 ⟨kv4,sv4,rfl,_,ZR,hT4⟩;have R5:=hid ZR;have T5:=hid (T3.o.trans hT4);clear ZR hT4;go_wp2_with fail;go_ret;exact⟨_,aC Hc.o.symm,by rw[qZ Hc.o];exact R5.o,T5.o⟩
theorem y7(B b:Nat)(sv:Av)(l:List Nd)(w:WD)(h:fV B w b sv l):
  Calls prog 258 #[.pointer (some ⟨b,0,none⟩)] w fun e w'=>∃sv',e=.returned (.bool (decide ((aH l).length<l.length)))/\fV B w' b sv' (aH l)/\Turn b w w':=by
 have R1:=hid h;clear h;go_in;go_wp2_with fail;go_loopg[3] l.length (fun g v3 wr=>∃(cur:List Nd) (sv:Av) (p:Bool),v3=.bool p/\g=cur.length/\Aside (fV B wr b sv cur/\Turn b w wr/\aH cur=aH l/\cur.length<=l.length/\p=decide (cur.length<l.length)));case atStart=>exact⟨l,sv,false,rfl,rfl,R1.o,Turn.refl _ _,rfl,Nat.le_refl _,by simp⟩
 case round=>
  obtain⟨cur,sv,p,rfl,rfl,hA⟩:=hrel;have R2:=hid hA.o.1;have T2:=hid hA.o.2.1;have HD:=hid hA.o.2.2.1;have HL:=hid hA.o.2.2.2;clear hA R1;go_wp2_with fail;refine(Hg B b sv cur _ R2.o).mono ?_;rintro e w1 ⟨kv,rfl,_,hb1⟩;have R3:=hid (R2.o.below hb1);have T3:=hid (T2.o.trans (Turn.of_below hb1));clear hb1 R2 T2;unfold fB;cases hk:((hdN cur).t.kind==1)
  .have HE:Hid (aH l=cur):=by
    show _=_;rw[<-HD.o];cases cur with
    |nil=>rfl
    |cons n r=>exact pV (by simpa[hdN]using hk)
   have HV:Hid (p=decide ((aH l).length<l.length)):=by show _=_;rw[HE.o];exact HL.o.2
   go_wp2_with fail;go_ret;exact⟨_,aC HV.o,by rw[HE.o];exact R3.o,T3.o⟩
  .obtain⟨n,r,rfl,hn⟩:∃n r,cur=n::r/\n.t.kind=1:=by
    cases cur with
    |nil=>simp[hdN,Tok.k]at hk
    |cons n r=>exact⟨n,r,rfl,by simpa[hdN]using hk⟩
   have HD2:Hid (aH r=aH l):=by show _=_;rw[<-HD.o,pU hn]
   have HL2:Hid (r.length<=l.length/\true=decide (r.length<l.length)):=by have:=HL.o.1;simp only[List.length_cons]at this;exact⟨oo,by simp;omega⟩
   clear hn HD HL;go_wp2_with fail;refine(sN B b sv (n::r) _ R3.o).mono ?_;rintro e w4 ⟨kv4,sv4,rfl,_,ZR,hT4⟩;have R5:=hid ZR;have T5:=hid (T3.o.trans hT4);clear ZR hT4;go_wp2_with fail;go_roundg r.length;case measure=>simp
   case rel=>exact⟨r,sv4,true,rfl,rfl,R5.o,T5.o,HD2.o,HL2.o.1,HL2.o.2⟩
end
end Go.Proofs.YtlliliddljkbfaaGreat
namespace Go.Proofs.YtlliliddljkbfaaGreat
open Go.Proofs.Tryz (prog)
open Go.RowKit
theorem wpList_append_str{P:Program}(w:World){ops:Array Oper}{rest:List Oper}{o:Oper}{a:Act}{Q:Exit->Act->World->Prop}
  (hg:o.guard=none) (s x:Operand) (t tx:TypeId) (hop:o.op=Op.call { callee:=Callee.builtin Builtin.append,args:=#[s,x],argTypes:=#[t,tx] })
  (base:Nat) (e:TypeId) (i:TypeInfo) (h1:P.underlying t=some (.slice e)) (h1x:P.underlying tx=some .string) (h2:P.info? e=some i) (h4:i.size=1)
  (g k cap:Nat) (xs:List Value) (hs:a.eval s=.slice (some ⟨g,0,none⟩) k cap) (hown:w.ownsRow base e 1 (.slice (some ⟨g,0,none⟩) k cap) k xs) (str:ByteArray) (hx:a.eval x=.string str) (b1:k+str.size<=cap)
  (hK:∀w',w'.ownsRow base e 1 (.slice (some ⟨g,0,none⟩) (k+str.size) cap) (k+str.size) (xs++byteCells str)->w.grownBy w' (some g)->wpList P ops Q rest (a.put o.dst (.slice (some ⟨g,0,none⟩) (k+str.size) cap)) w'):
  wpList P ops Q (o::rest) a w:=by
 refine wpList_plain hg fun K hK'=>?_;have hl:(byteCells str).length=str.size:=byteCells_length str;have hone:∀u∈byteCells str,u.oneCell'=true:=(Src.ofString (P:=P) w h1x str).one;rcases hown.2 with⟨hv,_⟩|⟨g',cap',cur,hv,hb,hgg,hnc,hcm,hcs,htake⟩
 .cases hv
 .have hv':g=g'/\cap=cap':=by
   injection hv with e1 e2 e3
   injection e1 with e1
   injection e1 with e1
   exact⟨e1,e3⟩
  obtain⟨rfl,rfl⟩:=hv';have hx0:=hown.1;have hst:=run_storeCells_at P g k e (byteCells str) 0 cur w hgg (by rw[hl,hcs];omega) hone;simp only[Nat.add_zero]at hst;have hrun:(Builtin.append_ #[t,tx] o.type #[.slice (some ⟨g,0,none⟩) k cap,.string str]).run P w =
    .ok (.slice (some ⟨g,0,none⟩) (k+str.size) cap) (w.setRow g (cur.toList.take k++byteCells str++cur.toList.drop (k+(byteCells str).length)).toArray):=by
   have hf:=firstCells_string (P:=P) str w;simp[Builtin.append_,run_underlying h1,run_underlying h1x,sizeOf,typeInfo,h2,h4,Builtin.lenOf,b1,hf,Addr.add_lit,hst]
  unfold Oper.wp;simp only[execOp,hop,resolve,invoke,builtin,Sem.run_bind,Sem.run_pure,Result.andThen_ok,List.map_toArray,List.map_cons,List.map_nil,hs,hx,hrun];refine hK' _ _ (hK _ ⟨?_,.inr ⟨g,cap,_,rfl,hb,setRow_heap w g cur _ e _ hgg,b1,hcm,?_,?_⟩⟩ ⟨rfl,rfl,rfl,by simp,fun k' _ hk=>setRow_other w g k' _ (fun e=>hk (by rw[e]))⟩)
  .rw[List.length_append,hx0,hl];omega
  .simp only[List.size_toArray,List.length_append,List.length_take,List.length_drop,Array.length_toList,hl];omega
  .have h3:(k+str.size)*1=(cur.toList.take k++byteCells str).length:=by
    simp only[List.length_append,List.length_take,Array.length_toList,hl];omega
   rw[h3];dsimp only
   rw[List.take_left];congr 1
   rw[<-htake];simp
theorem conv_own{P:Program}(w:World)(src dst e:TypeId)(hs:P.underlying src=some (.slice e))(he:P.underlying e=some (.int .u8))(hd:P.underlying dst=some .string)
  {base:Nat}{v:Value} (l:List UInt8) (hown:w.ownsRow base e 1 v l.length (l.map fun b=>Value.int .u8 (b.toNat:Int))):
  (convert src dst v).run P w=.ok (.string ⟨l.toArray⟩) w:=by
 rcases hown.2 with⟨rfl,h0⟩|⟨g,cap,cur,rfl,hb,hgg,hnc,hcm,hcs,htake⟩
 .have:l=[]:=List.eq_nil_of_length_eq_zero h0;subst this;rw[run_convert_bytes_nil w src e hs he 0 0 dst hd];rfl
 .refine run_convert_bytes_back w src dst e ⟨g,0,none⟩ cap l hs he hd ?_;intro j hj;exact hown.cells (g:=g) rfl j _ (by simp[hj])
theorem byteCells_map(s:ByteArray):byteCells s=s.data.toList.map fun b=>Value.int .u8 (b.toNat:Int):=rfl
theorem info_u8:∃i,prog.info? 5=some i/\i.zero=some (.int .u8 0)/\i.size=1/\i.bytes=1:=info_parts (by kernel_rfl)
theorem info_str:∃i,prog.info? 9=some i/\i.zero=some (.string ⟨#[]⟩)/\i.size=1/\i.bytes=16:=info_parts (by kernel_rfl)
theorem info_tok:∃i,prog.info? 93=some i/\i.zero=some (.agg #[.int .i64 0,.string ⟨#[]⟩,.string ⟨#[]⟩])/\i.size=3/\i.bytes=40:=info_parts (by kernel_rfl)
end Go.Proofs.YtlliliddljkbfaaGreat
namespace Go.Proofs.YtlliliddljkbfaaGreat
open Go.Proofs.Tryz (prog)
open Go.RowKit
def aG:List ByteArray->ByteArray
 |[]=>ByteArray.empty
 |x::r=>x++aG r
def total:List ByteArray->Nat
 |[]=>0
 |x::r=>x.size+total r
theorem dh:∀(a b:List ByteArray),total (a++b)=total a+total b
 |[],b=>by simp[total]
 |x::a,b=>by simp[total,dh a b];omega
theorem qG:∀(a b:List ByteArray),aG (a++b)=aG a++aG b
 |[],b=>by simp[aG]
 |x::a,b=>by simp[aG,qG a b,ByteArray.append_assoc]
theorem oQ:∀(a:List ByteArray),(aG a).size=total a
 |[]=>rfl
 |x::a=>by simp[aG,total,oQ a]
theorem dw(a:List ByteArray)(x:ByteArray):aG (a++[x])=aG a++x:=by simp[qG,aG]
theorem take_snoc{α:Type}(l:List α)(k:Nat)(h:k<l.length):l.take (k+1)=l.take k++[l[k]]:=by rw[List.take_succ_eq_append_getElem h]
theorem pK(l:List ByteArray)(k:Nat):total (l.take k)<=total l:=by have:=dh (l.take k) (l.drop k);rw[List.take_append_drop]at this;omega
theorem Qw(a b:ByteArray):byteCells (a++b)=byteCells a++byteCells b:=by simp[byteCells,ByteArray.data_append]
theorem ZT(ps:List ByteArray)(g cap base:Nat)(w:World)(h:w.ownsRow base 9 1 (.slice (some ⟨g,0,none⟩) ps.length cap) ps.length (ps.map Value.string))(hn:ps.length<=1099511627776)(ht:total ps<=1099511627776):
  Calls prog 72 #[.slice (some ⟨g,0,none⟩) ps.length cap] w fun e w'=>e=.returned (.string (aG ps))/\Below w.heap.size w w':=by
 have hcell:∀k (hk:k<ps.length),w.cell? ⟨g,k,none⟩=some (.string ps[k]):=by intro k hk;have:=h.cells (g:=g) rfl k (.string ps[k]) (by simp[hk]);rwa[Addr.add_lit,Nat.zero_add]at this
 have amk:g<w.heap.size:=(h.lt g rfl).2;clear h;have HC:Hid (∀k (hk:k<ps.length),w.cell? ⟨g,k,none⟩=some (.string ps[k])):=hcell;clear hcell;obtain⟨iU,hiU,hzU,hsU,hbU⟩:=info_u8;have HI:Hid (prog.info? 5=some iU/\iU.zero=some (.int .u8 0)/\iU.size=1/\iU.bytes=1):=⟨hiU,hzU,hsU,hbU⟩;clear hiU hzU hsU hbU;go_in;go_wp2_with fail;go_loopg[3,11] ps.length (fun gg v3 v11 wr=>∃k:Nat,k+gg=ps.length/\v11=.int .i64 (k:Int)/\v3=.int .i64 (total (ps.take k):Int)/\Aside (w=wr));case atStart=>exact⟨0,by omega,rfl,rfl,rfl⟩
 case round=>
  obtain⟨k,hk,rfl,rfl,hA⟩:=hrel;obtain rfl:=hA.out;clear hA;have hle:=pK ps k;by_cases hlt:k<ps.length
  .have hc:=HC.out k hlt;have hT:Hid (total (ps.take (k+1))=total (ps.take k)+ps[k].size):=by
    show _=_;rw[take_snoc ps k hlt,dh];simp[total]
   have hle2:=pK ps (k+1);have hsz:ps[k].size<=1099511627776:=by have:=hT.out;omega
   clear hle2;go_wp2_with fail;go_roundg(gk-1);case measure=>omega
   case rel=>exact⟨k+1,by omega,by congr 1,by rw[hT.out];congr 1,rfl⟩
  .have hk2:Hid (k=ps.length):=by show k=_;omega
   have hT:Hid (ps.take k=ps):=by show _=_;rw[hk2.out];simp
   have hsum:Hid (total (ps.take k)=total ps):=by show _=_;rw[hT.out]
   generalize hm:total (ps.take k)=m at *;have Hm:Hid (m=total ps):=hsum.out;clear hm hsum hT;have ane:m<=1099511627776:=by omega
   go_wp2_with(at_make;refine wpList_make_own _ rfl _ _ 145 rfl w.heap.size 5 iU (.int .u8 0) 1 Tryz.underlying145 HI.out.1 HI.out.2.1 HI.out.2.2.1 _ _ _ m rfl rfl rfl ?_ ?_ ?_ ?_)
   .rw[HI.out.2.2.2];omega
   .unfold maxLen;omega
   .exact Nat.le_refl _
   intro w1 hown1 Qx;have hb1:Below w.heap.size w w1:=(Below.refl _ _).grown Qx (Nat.le_refl _) (fun _ h=>by cases h);have HB1:Hid (Below w.heap.size w w1):=hb1;have uS:Hid (w1.ownsRow w.heap.size 5 1 (.slice (some ⟨w.heap.size,0,none⟩) 0 m) 0 []):=hown1;clear hown1 Qx hb1;go_wp2_with fail;go_loopg[6,24] ps.length (fun gg v6 v24 w2=>∃j:Nat,j+gg=ps.length/\v24=.int .i64 (j:Int)/\v6=.slice (some ⟨w.heap.size,0,none⟩) (total (ps.take j)) m /\
    Aside (w2.ownsRow w.heap.size 5 1 (.slice (some ⟨w.heap.size,0,none⟩) (total (ps.take j)) m) (total (ps.take j)) (byteCells (aG (ps.take j)))/\Below w.heap.size w w2))
   case atStart=>exact⟨0,by omega,rfl,rfl,uS.out,HB1.out⟩
   case round=>
    obtain⟨j,hj,rfl,rfl,hA⟩:=hrel;have HO:Hid (wr.ownsRow w.heap.size 5 1 (.slice (some ⟨w.heap.size,0,none⟩) (total (ps.take j)) m) (total (ps.take j)) (byteCells (aG (ps.take j)))):=hA.out.1;have HB:Hid (Below w.heap.size w wr):=hA.out.2;clear hA;have hle2:=pK ps j;by_cases hlt2:j<ps.length
    .have hc:wr.cell? ⟨g,j,none⟩=some (.string ps[j]):=by
      rw[HB.out.cell (p:=⟨g,j,none⟩) amk];exact HC.out j hlt2
     have hT:Hid (total (ps.take (j+1))=total (ps.take j)+ps[j].size):=by show _=_;rw[take_snoc ps j hlt2,dh];simp[total]
     have hle3:total (ps.take j)+ps[j].size<=m:=by have h1:=pK ps (j+1);have h2:=hT.out;have h3:=Hm.out;omega
     generalize hpj:ps[j]=q at *;generalize htj:total (ps.take j)=tj at *;have Hpj:Hid (ps[j]=q):=hpj;have Htj:Hid (total (ps.take j)=tj):=htj;clear hpj htj;go_wp2_with(at_builtin;refine wpList_append_str _ rfl _ _ 145 9 rfl w.heap.size 5 iU Tryz.underlying145 Tryz.underlying9 HI.out.1 HI.out.2.2.1 w.heap.size tj m (byteCells (aG (ps.take j))) rfl HO.out q rfl hle3 ?_);intro w3 hown3 ab5;have HO3:Hid (w3.ownsRow w.heap.size 5 1 (.slice (some ⟨w.heap.size,0,none⟩) (tj+q.size) m) (tj+q.size) (byteCells (aG (ps.take j))++byteCells q)):=hown3;have HB3:Hid (Below w.heap.size w w3):=HB.out.grown ab5 HB.out.size (fun k hk=>by cases hk;exact Nat.le_refl _);clear hown3 ab5;go_wp2_with fail;go_roundg(gk-1);case measure=>omega
     case rel=>refine⟨j+1,by omega,by congr 1,by rw[hT.out],?_,HB3.out⟩;rw[hT.out,take_snoc ps j hlt2,dw,Qw,Hpj.out];exact HO3.out
    .have hT:Hid (ps.take j=ps):=by show _=_;rw[List.take_of_length_le (by omega)]
     have hcv:(convert 145 9 (.slice (some ⟨w.heap.size,0,none⟩) (total (ps.take j)) m)).run prog wr=.ok (.string (aG ps)) wr:=by
      have h1:=HO.out;rw[hT.out]at h1⊢;rw[byteCells_map]at h1;have h2:=conv_own (P:=prog) wr 145 9 5 Tryz.underlying145 Tryz.underlying5 Tryz.underlying9 (base:=w.heap.size) (v:=.slice (some ⟨w.heap.size,0,none⟩) (total ps) m) (aG ps).data.toList (by
       have e:(aG ps).data.toList.length=total ps:=by rw[<-oQ];rfl
       rw[e];exact h1)
      simpa using h2
     go_wp2_with fail;go_ret;exact⟨rfl,HB.out⟩
theorem ZU(w:World):Calls prog 72 #[.slice none 0 0] w fun e w'=>e=.returned (.string ByteArray.empty)/\Below w.heap.size w w':=by
 obtain⟨iU,hiU,hzU,hsU,hbU⟩:=info_u8;have HI:Hid (prog.info? 5=some iU/\iU.zero=some (.int .u8 0)/\iU.size=1/\iU.bytes=1):=⟨hiU,hzU,hsU,hbU⟩;clear hiU hzU hsU hbU;go_in;go_wp2_with fail;go_loopg[3,11] 0 (fun gg v3 v11 wr=>v11=.int .i64 0/\v3=.int .i64 0/\Aside (w=wr));case atStart=>exact⟨rfl,rfl,rfl⟩
 case round=>
  obtain⟨rfl,rfl,hA⟩:=hrel;obtain rfl:=hA.out;clear hA;go_wp2_with(at_make;refine wpList_make_own _ rfl _ _ 145 rfl w.heap.size 5 iU (.int .u8 0) 1 Tryz.underlying145 HI.out.1 HI.out.2.1 HI.out.2.2.1 _ _ _ 0 rfl rfl rfl ?_ ?_ ?_ ?_)
  .omega
  .unfold maxLen;omega
  .exact Nat.le_refl _
  intro w1 hown1 Qx;have HB1:Hid (Below w.heap.size w w1):=(Below.refl _ _).grown Qx (Nat.le_refl _) (fun _ h=>by cases h);have uS:Hid (w1.ownsRow w.heap.size 5 1 (.slice (some ⟨w.heap.size,0,none⟩) 0 0) 0 []):=hown1;clear hown1 Qx;go_wp2_with fail;go_loopg[6,24] 0 (fun gg v6 v24 w2=>v24=.int .i64 0/\v6=.slice (some ⟨w.heap.size,0,none⟩) 0 0/\Aside (w1=w2));case atStart=>exact⟨rfl,rfl,rfl⟩
  case round=>
   obtain⟨rfl,rfl,hA⟩:=hrel;obtain rfl:=hA.out;clear hA;have hcv:(convert 145 9 (.slice (some ⟨w.heap.size,0,none⟩) 0 0)).run prog w1=.ok (.string ByteArray.empty) w1:=conv_own (P:=prog) w1 145 9 5 Tryz.underlying145 Tryz.underlying5 Tryz.underlying9 (base:=w.heap.size) (v:=.slice (some ⟨w.heap.size,0,none⟩) 0 0) [] uS.out
   go_wp2_with fail;go_ret;exact⟨rfl,HB1.out⟩
theorem dQ(ps:List ByteArray)(base:Nat)(v:Value)(w:World)(h:w.ownsRow base 9 1 v ps.length (ps.map Value.string))(hn:ps.length<=1099511627776)(ht:total ps<=1099511627776):
  Calls prog 72 #[v] w fun e w'=>e=.returned (.string (aG ps))/\Below w.heap.size w w':=by
 rcases h.2 with⟨rfl,h0⟩|⟨g,cap,cur,rfl,_⟩
 .have:ps=[]:=List.eq_nil_of_length_eq_zero h0;subst this;exact ZU w
 .exact ZT ps g cap base w h hn ht
end Go.Proofs.YtlliliddljkbfaaGreat
namespace Go.Proofs.YtlliliddljkbfaaGreat
open Go.Proofs.Tryz (prog)
open Go.RowKit Sp
theorem ZV(c:UInt8):(jr c).toNat=if 65<=c.toNat/\c.toNat<=90 then c.toNat+32 else c.toNat:=by
 unfold jr;have h:=c.toNat_lt;by_cases h1:65<=c/\c<=90
 .rw[if_pos h1];have h2:65<=c.toNat/\c.toNat<=90:=by simpa[UInt8.le_iff_toNat_le]using h1
  rw[if_pos h2,UInt8.toNat_add];simp;omega
 .rw[if_neg h1,if_neg (by simpa[UInt8.le_iff_toNat_le]using h1)]
def Bytes(w:World)(g:Nat)(s:BY)(k:Nat):Prop:=
 (∀j (hj:j<s.size),w.cell? ⟨g,j,none⟩=some (.int .u8 (if j<k then((jr s[j]).toNat:Int) else(s[j].toNat:Int)))) /\
 (∀j,j<s.size->w.frozen? ⟨g,j,none⟩=false)/\g<w.heap.size
theorem Bytes.step{w:World}{g:Nat}{s:BY}{k:Nat}(h:Bytes w g s k)(hk:k<s.size):Bytes (w.setCell ⟨g,k,none⟩ (.int .u8 ((jr s[k]).toNat:Int))) g s (k+1):=by
 refine⟨fun j hj=>?_,fun j hj=>?_,by simpa[World.setCell]using h.2.2⟩
 .by_cases e:j=k
  .subst e;rw[if_pos (by omega)];apply World.cell?_setCell_same
   exact h.1 j hj
  .have h1:=h.1 j hj;have h2:(w.setCell ⟨g,k,none⟩ (.int .u8 ((jr s[k]).toNat:Int))).cell? ⟨g,j,none⟩=w.cell? ⟨g,j,none⟩:=by
    apply World.cell?_setCell_other
    intro h0;exact e (congrArg Addr.off h0).symm
   rw[h2,h1];congr 2
   by_cases h3:j<k
   .rw[if_pos h3,if_pos (by omega)]
   .rw[if_neg h3,if_neg (by omega)]
 .have:=h.2.1 j hj;simpa using this
theorem Bytes.stay{w:World}{g:Nat}{s:BY}{k:Nat}(h:Bytes w g s k)(hk:k<s.size)(e:jr s[k]=s[k]):Bytes w g s (k+1):=by
 refine⟨fun j hj=>?_,h.2.1,h.2.2⟩;rw[h.1 j hj];congr 2
 by_cases h3:j<k
 .rw[if_pos h3,if_pos (by omega)]
 .rw[if_neg h3];by_cases h4:j<k+1
  .obtain rfl:j=k:=by omega
   rw[if_pos h4,e]
  .rw[if_neg h4]
theorem Bytes.conv{w:World}{g:Nat}{s:BY}{k cap:Nat}(h:Bytes w g s k)(hk:s.size<=k):
  (convert 145 9 (.slice (some ⟨g,0,none⟩) s.size cap)).run prog w=.ok (.string (small s)) w:=by
 have hl:(s.data.toList.map jr).length=s.size:=by simp
 have:=run_convert_bytes_back (P:=prog) w 145 9 5 ⟨g,0,none⟩ cap (s.data.toList.map jr) Tryz.underlying145 Tryz.underlying5 Tryz.underlying9 (by intro j hj;rw[hl]at hj;rw[Addr.add_lit,Nat.zero_add,h.1 j hj,if_pos (by omega)];simp;rfl)
 rw[hl]at this;exact this
theorem ab6(s:BY)(w:World):∃w1 cap,(convert 9 145 (.string s)).run prog w=.ok (.slice (some ⟨w.heap.size,0,none⟩) s.size cap) w1/\(Bytes w1 w.heap.size s 0/\Below w.heap.size w w1)/\w.heap.size<w1.heap.size:=by
 refine⟨_,_,run_bytes_of_string (P:=prog) w 9 145 5 s Tryz.underlying9 Tryz.underlying145 Tryz.underlying5,⟨⟨?_,?_,?_⟩,?_⟩,?_⟩
 .intro j hj;rw[if_neg (by omega)];have e:=World.cell?_alloc_mark w.drew (bytesRow s (grownCap w s.size 0 5)) 5 ((bytesRow s (grownCap w s.size 0 5)).size,(bytesRow s (grownCap w s.size 0 5)).size+1) j;have e2:w.drew.heap.size=w.heap.size:=rfl;rw[e2]at e;rw[e];unfold bytesRow;rw[Array.getElem?_append_left (by simpa using hj)];simp[hj];rfl
 .intro j hj;have hsz:s.size<=(bytesRow s (grownCap w s.size 0 5)).size:=by simp[bytesRow]
  unfold World.frozen?;have e:=heap_alloc_new w.drew (.cells (bytesRow s (grownCap w s.size 0 5)) 5 ((bytesRow s (grownCap w s.size 0 5)).size,(bytesRow s (grownCap w s.size 0 5)).size+1));have e2:w.drew.heap.size=w.heap.size:=rfl;rw[e2]at e;rw[e];simp;omega
 .simp
 .exact((Below.refl _ w).drew).alloc (Nat.le_refl _) _
 .simp
theorem nH(s:BY)(w:World)(hs:s.size<=4000000):
  Calls prog 65 #[.string s] w fun e w'=>e=.returned (.string (small s))/\Below w.heap.size w w':=by
 obtain⟨w1,cap,hrun,hbs,hsz⟩:=ab6 s w;have HB:Hid (Bytes w1 w.heap.size s 0):=hbs.1;have HW:Hid (Below w.heap.size w w1):=hbs.2;clear hbs;go_in;go_wp2_with fail;go_loopg[10] s.size (fun g v10 wr=>∃k:Nat,k+g=s.size/\v10=.int .i64 (k:Int)/\Aside (Bytes wr w.heap.size s k/\Below w.heap.size w wr));case atStart=>exact⟨0,by omega,rfl,HB.out,HW.out⟩
 case round=>
  obtain⟨k,hk,rfl,hA⟩:=hrel;have H1:Hid (Bytes wr w.heap.size s k):=hA.out.1;have H2:Hid (Below w.heap.size w wr):=hA.out.2;clear hA;by_cases hlt:k<s.size
  .have hc:wr.cell? ⟨w.heap.size,k,none⟩=some (.int .u8 (s[k].toNat:Int)):=by rw[H1.out.1 k hlt,if_neg (by omega)]
   have hf:=H1.out.2.1 k hlt;have hl:=H1.out.2.2;have hb:s[k].toNat<256:=s[k].toNat_lt;have HS:Hid ((jr s[k]).toNat=if 65<=s[k].toNat/\s[k].toNat<=90 then s[k].toNat+32 else s[k].toNat):=ZV _;have HK:Hid (Bytes (wr.setCell ⟨w.heap.size,k,none⟩ (.int .u8 ((jr s[k]).toNat:Int))) w.heap.size s (k+1)):=H1.out.step hlt;have HN:Hid (jr s[k]=s[k]->Bytes wr w.heap.size s (k+1)):=H1.out.stay hlt;have HE:Hid ((jr s[k]).toNat=s[k].toNat->jr s[k]=s[k]):=fun h=>UInt8.toNat_inj.1 h;generalize hn:s[k].toNat=n at *;clear hn;by_cases h65:65<=n
   .by_cases h90:n<=90
    .have akH:(65:Int)<=(n:Int):=by omega
     have aml:(n:Int)<=90:=by omega
     go_wp2_with fail;go_roundg(gk-1);case measure=>omega
     case rel=>
      refine⟨k+1,by omega,by congr 1,?_,H2.out.setCell (Nat.le_refl _) _⟩;have e:=HS.out;rw[if_pos ⟨h65,h90⟩]at e;have:=HK.out;rw[e]at this;first
      |exact this
      |(have e2:((n+32:Nat):Int)=(n:Int)-65+97:=(by omega);rw[e2]at this;exact this)
    .have aml:(90:Int)<(n:Int):=by omega
     have akH:(65:Int)<=(n:Int):=by omega
     go_wp2_with fail;go_roundg(gk-1);case measure=>omega
     case rel=>exact⟨k+1,by omega,by congr 1,HN.out (HE.out (by rw[HS.out,if_neg (by omega)])),H2.out⟩
   .have akH:(n:Int)<65:=by omega
    go_wp2_with fail;go_roundg(gk-1);case measure=>omega
    case rel=>exact⟨k+1,by omega,by congr 1,HN.out (HE.out (by rw[HS.out,if_neg (by omega)])),H2.out⟩
  .have hcv:=H1.out.conv (cap:=cap) (by omega);go_wp2_with fail;go_ret;exact⟨rfl,H2.out⟩
end Go.Proofs.YtlliliddljkbfaaGreat
namespace Go.Proofs.YtlliliddljkbfaaGreat.Sp
section
def cat:List BY->BY
 |[]=>aA
 |a::r=>a++cat r
structure Rule where
 at_:Option BY
 head:List Nd
 body:Option (List Nd)
def bG(stop:Nd->Bool):List Nd->List Nd×Option Nd×List Nd
 |[]=>([],none,[])
 |n::r=>if stop n=true then([],some n,r) else let x:=bG stop r;(n::x.1,x.2)
def aS(n:Nd):Bool:=dN n (b1 59)
def aK(n:Nd):Bool:=dN n (b1 123)
def gV:Option Nd->Option (List Nd)
 |none=>none
 |some b=>if aK b=true then some b.kids else none
def oG(zM:Bool)(n:Nd):Bool:=iH n||(zM&&(decide (n.t.kind=8)||decide (n.t.kind=9)))
def fM:Nat->Bool->List Nd->List Rule
 |0,_,_=>[]
 |_+1,_,[]=>[]
 |f+1,sh,n::r=>
  if oG sh n=true then fM f sh r
  else if n.t.kind=10 then
   let c:=bG (fun m=>aS m||aK m) r
   ⟨some n.t.word,c.1,gV c.2.1⟩::fM f sh c.2.2
  else
   let c:=bG aK (n::r)
   match c.2.1 with
   |none=>[]
   |some b=>⟨none,c.1,some b.kids⟩::fM f sh c.2.2
def rules(sh:Bool)(l:List Nd):List Rule:=fM l.length sh l
structure Dec where
 prop:BY
 val:List Nd
 imp:Bool
def custom(p:BY):Bool:=decide (pk p 0=45)&&decide (pk p 1=45)
def jM(w:BY):BY:=if custom w=true then w else small w
def jw:BY:=⟨#[105,109,112,111,114,116,97,110,116]⟩
def ru(n:Nd)(w:BY):Bool:=decide (n.t.kind=14)&&decide (small n.t.word=w)
def gW(v:List Nd):List Nd×Bool:=
 match v.getLast? with
 |none=>(v,false)
 |some x=>
  if ru x jw=true then
   (match (bare v.dropLast).getLast? with
    |none=>(v,false)
    |some y=>if dN y (b1 33)=true then(bare (bare v.dropLast).dropLast,true) else(v,false))
  else(v,false)
def iI(l:List Nd):Option Dec:=
 match l with
 |[]=>none
 |n::r=>
  if n.t.kind≠14 then none
  else match bare r with
   |[]=>none
   |c::q=>if dN c (b1 58)=true then some ⟨jM n.t.word,(gW (bare q)).1,(gW (bare q)).2⟩ else none
def fF:Nat->List Nd->List Dec
 |0,_=>[]
 |_+1,[]=>[]
 |f+1,n::r=>
  if iH n||aS n then fF f r
  else if n.t.kind=10 then fF f (bG (fun m=>aS m||aK m) r).2.2
  else
   let c:=bG aS (n::r)
   match iI c.1 with
   |none=>fF f c.2.2
   |some d=>d::fF f c.2.2
def decls(l:List Nd):List Dec:=fF l.length l
def hexD(n:Nat):UInt8:=if n<10 then UInt8.ofNat (48+n) else UInt8.ofNat (87+n)
def KU(c:UInt8):BY:=⟨#[92,hexD (c.toNat/16),hexD (c.toNat%16),32]⟩
def oU(c:UInt8):Bool:=(decide (97<=c.toNat)&&decide (c.toNat<=122))||(decide (65<=c.toNat)&&decide (c.toNat<=90))
def oV(c:UInt8):Bool:=decide (48<=c.toNat)&&decide (c.toNat<=57)
def dZ(w:BY)(i:Nat)(c:UInt8):Bool:=
 if oV c=true then !(i==0||(i==1&&pk w 0==45))
 else if c=45 then !(w.size==1)
 else oU c||c==95
def BP(ok:Nat->UInt8->Bool):Nat->List UInt8->BY
 |_,[]=>aA
 |i,c::r=>(if ok i c=true then b1 c else KU c)++BP ok (i+1) r
def dP(w:BY):BY:=BP (dZ w) 0 w.data.toList
def Fe(w:BY):BY:=BP (fun i c=>dZ w i c&&!(i==0&&(c==101||c==69))) 0 w.data.toList
def jO(c:UInt8):Bool:=decide (32<=c.toNat)&&decide (c.toNat<=126)&&!(c==34||c==92||c==60||c==62)
def aiR:BY:=b1 34
def xG(w:BY):BY:=aiR++(BP (fun _ c=>jO c) 0 w.data.toList++aiR)
def xH(c:UInt8):Bool:=oU c||oV c||c==46||c==47||c==58||c==45
def akI:BY:=⟨#[117,114,108,40]⟩
def Hw(w:BY):BY:=akI++(BP (fun _ c=>xH c) 0 w.data.toList++b1 41)
def aib:BY:=⟨#[60,33,45,45]⟩
def ab7:BY:=⟨#[45,45,62]⟩
def aic:BY:=⟨#[34,10]⟩
def aie:BY:=⟨#[117,114,108,40,40,41]⟩
def og:BY:=⟨#[47,42,42,47]⟩
def Yt(w:BY):Bool:=decide (w=b1 44)||decide (w=b1 58)||decide (w=b1 59)||decide (w=b1 41)||decide (w=b1 93)||decide (w=b1 125)
def oH(t:Tok):Bool:=decide (t.kind=1)||(decide (t.kind=15)&&Yt t.word)
def parts(a b:Tok):Bool:=!oH a&&!oH b&&decide (closing a=aA)&&!au b (b1 91)&&!au b (b1 123)
def Qy(t:Tok)(inn:BY):BY:=
 if t.kind=1 then b1 32
 else if t.kind=2 then xG t.word
 else if t.kind=3 then aic
 else if t.kind=4 then b1 35++dP t.word
 else if t.kind=6 then t.word++b1 37
 else if t.kind=7 then t.word++Fe t.unit
 else if t.kind=8 then aib
 else if t.kind=9 then ab7
 else if t.kind=10 then b1 64++dP t.word
 else if t.kind=11 then dP t.word++(b1 40++(inn++b1 41))
 else if t.kind=12 then Hw t.word
 else if t.kind=13 then aie
 else if t.kind=14 then dP t.word
 else if t.kind=15 then t.word++(inn++closing t)
 else t.word
def Aj(a:Option Tok)(b:Tok):BY:=match a with|none=>aA|some a=>if parts a b=true then og else aA
def Ak(a:Option Tok)(b:Tok):Bool:=match a with|none=>false|some a=>decide (a.kind=1)&&decide (b.kind=1)
mutual
def iM:Nd->BY
 |.mk t k=>Qy t (l9 none k)
def l9:Option Tok->List Nd->BY
 |_,[]=>aA
 |a,n::r=>(if Ak a n.t=true then aA else Aj a n.t++iM n)++l9 (some n.t) r
end
def written(l:List Nd):BY:=l9 none l
structure Wt where
 a:Nat
 b:Nat
 c:Nat
def Wt.zero:Wt:=⟨0,0,0⟩
def Wt.add(x y:Wt):Wt:=⟨x.a+y.a,x.b+y.b,x.c+y.c⟩
def Wt.less(x y:Wt):Bool:=if x.a≠y.a then decide (x.a<y.a) else if x.b≠y.b then decide (x.b<y.b) else decide (x.c<y.c)
def Wt.most(x y:Wt):Wt:=if x.less y=true then y else x
mutual
def wtS:Simple->Wt
 |.mk kind name _ _ list _=>
  if kind=35 then⟨1,0,0⟩
  else if kind=116 then(if name=aA then Wt.zero else⟨0,0,1⟩)
  else if kind=58/\(name=nD\/name=DY) then wtL Wt.zero list
  else⟨0,1,0⟩
def wtA:List Simple->Wt
 |[]=>Wt.zero
 |s::r=>(wtS s).add (wtA r)
def wtT:Nat×List Simple->Wt
 |(_,all)=>wtA all
def wtC:List (Nat×List Simple)->Wt
 |[]=>Wt.zero
 |t::r=>(wtT t).add (wtC r)
def wtL:Wt->List (List (Nat×List Simple))->Wt
 |best,[]=>best
 |best,c::r=>wtL (best.most (wtC c)) r
end
abbrev akJ:=bY×List Dec
structure jS where
 imp:Bool
 wt:Wt
 val:List Nd
def amm:BY:=⟨#[118,97,114]⟩
def jU:BY:=⟨#[105,110,104,101,114,105,116]⟩
def lN:BY:=⟨#[117,110,115,101,116]⟩
def nInitial:BY:=⟨#[105,110,105,116,105,97,108]⟩
def ab8:BY:=⟨#[99,111,108,111,114]⟩
def aif:BY:=⟨#[102,111,110,116,45,115,105,122,101]⟩
def Yu:BY:=⟨#[113,117,111,116,101,115]⟩
def isWord(v:List Nd)(w:BY):Bool:=match v with|[n]=>ru n w|_=>false
mutual
def Qz(g:Tok->Bool):Nd->Bool
 |.mk t k=>g t||jg g k
def jg(g:Tok->Bool):List Nd->Bool
 |[]=>false
 |n::r=>Qz g n||jg g r
end
def zB(t:Tok):Bool:=decide (t.kind=3)||decide (t.kind=13)
def kD(t:Tok):Bool:=decide (t.kind=11)&&decide (small t.word=amm)
def handed(q:BY):Bool:=custom q||decide (q=ab8)||decide (q=aif)||decide (q=Yu)
def tC(h:Nd->Option Nd):List Nd->Option (List Nd)
 |[]=>some []
 |n::r=>match h n with|none=>none|some m=>(tC h r).map (fun x=>m::x)
section
variable (p:aI) (rs:List akJ)
end
def bH(s:BY):List Nd:=nodes (toks (clean s))
structure aF where
 root:BY
 props:List BY
 aJ:List BY
 ats:List BY
 aU:Bool
 texts:Bool
def jh(c:UInt8):Bool:=decide (97<=c.toNat)&&decide (c.toNat<=122)
def gK(s:BY):Bool:=s.data.toList.all (fun c=>jh c||c==45)&&decide (1<=s.size)&&decide (s.size<=30)
def qp(p:aF):Bool:=
 p.root.data.toList.all jh&&decide (p.root.size<=12) &&
 (decide (p.props.length<=20)&&p.props.all (fun s=>gK s&&!(pk s 0==45))) &&
 (decide (p.aJ.length<=20)&&p.aJ.all gK)&&(decide (p.ats.length<=20)&&p.ats.all gK)
def vk(w:BY):Bool:=decide (w=b1 43)||decide (w=b1 45)||decide (w=b1 42)||decide (w=b1 47)||decide (w=b1 46)||decide (w=b1 44)||decide (w=b1 37)||decide (w=b1 61)||decide (w=b1 58)
def oI(p:aF)(t:Tok):Bool:=
 if t.kind=3\/t.kind=12\/t.kind=13\/t.kind=10\/t.kind=8\/t.kind=9 then false
 else if t.kind=15 then !decide (closing t=aA)||vk t.word
 else if t.kind=2 then p.texts
 else if t.kind=11 then p.aJ.contains (small t.word)
 else true
def eH(p:aF)(l:List Nd):Bool:=!jg (fun t=>!oI p t) l
structure ZW where
 dO:Nat->BY
 pos:∀n,n<=1000->0<(dO n).size
 sz:∀n,n<=1000->(dO n).size<=100
 mW:∀n,n<=999->∀c∈(dO n).data.toList,fG (c.toNat:Int)=true
abbrev bV:=Inhabited ZW
def H7[bV](n:Nat):BY:=(default:ZW).dO n
def tV(b:Nat):BY:=if b=32 then b1 32 else if b=62\/b=43\/b=126 then b1 32++(b1 (UInt8.ofNat b)++b1 32) else aA
def zN(name how value:BY):BY:=if how=aA then b1 91++(dP name++b1 93) else b1 91++(dP name++(how++(xG value++b1 93)))
mutual
def Am[bV]:Simple->BY
 |.mk kind name how value list place=>
  if kind=116 then(if name=aA then b1 42 else dP name)
  else if kind=35 then b1 35++dP name
  else if kind=46 then b1 46++dP name
  else if kind=91 then zN name how value
  else if name=nD\/name=DY then b1 58++(name++(b1 40++(jV aA list++b1 41)))
  else if name=nG then b1 58++(name++(b1 40++((if place=0 then sZ else if place=1 then l7 else H7 (place-2))++b1 41)))
  else b1 58++name
def vw[bV]:List Simple->BY
 |[]=>aA
 |s::r=>Am s++vw r
def ab9[bV]:Nat×List Simple->BY
 |(b,all)=>tV b++vw all
def dW[bV]:List (Nat×List Simple)->BY
 |[]=>aA
 |t::r=>ab9 t++dW r
def jV[bV](ahead:BY):List (List (Nat×List Simple))->BY
 |[]=>aA
 |c::r=>ahead++(dW c++qC ahead r)
def qC[bV](ahead:BY):List (List (Nat×List Simple))->BY
 |[]=>aA
 |c::r=>b1 44++(ahead++(dW c++qC ahead r))
end
def ZX:BY:=⟨#[33,105,109,112,111,114,116,97,110,116]⟩
def kR(p:aF)(d:Dec):Bool:=(if custom d.prop=true then p.aU else p.props.contains d.prop)&&eH p d.val&&!d.val.isEmpty
def jW(d:Dec):BY:=dP d.prop++(b1 58++(written d.val++(if d.imp=true then ZX else aA)))
def jX(sep:BY):List BY->BY
 |[]=>aA
 |[a]=>a
 |a::b::r=>a++(sep++jX sep (b::r))
def tX(p:aF)(l:List Nd):BY:=jX (b1 59) (((decls l).filter (kR p)).map jW)
def Vw(p:aF):BY:=if p.root=aA then aA else b1 46++(p.root++b1 32)
def H8[bV](p:aF)(r:Rule)(b:List Nd):BY:=
 match Ot r.head with
 |none=>aA
 |some s=>if tX p b=aA then aA else jV (Vw p) s++(b1 123++(tX p b++b1 125))
def qE(h:List Nd):BY:=if h=[] then aA else b1 32++written h
def H9[bV](p:aF)(rec:List Nd->BY)(r:Rule):BY:=
 match r.at_,r.body with
 |some w,some b=>
  if p.ats.contains (small w)=true/\eH p (bare r.head)=true then
   (if rec b=aA then aA else b1 64++(dP (small w)++(qE (bare r.head)++(b1 123++(rec b++b1 125)))))
  else aA
 |none,some b=>H8 p r b
 |_,none=>aA
def tY[bV](p:aF):Nat->Bool->List Nd->BY
 |0,sh,l=>cat ((rules sh l).map (H9 p (fun _=>aA)))
 |f+1,sh,l=>cat ((rules sh l).map (H9 p (tY p f false)))
def dR[bV](s:BY)(p:aF):BY×Int:=
 if qp p=false then(aA,5)
 else if 600<s.size then(aA,1)
 else if 8<depth (bH s) then(aA,2)
 else(tY p (depth (bH s)) true (bH s),0)
end
end Go.Proofs.YtlliliddljkbfaaGreat.Sp
namespace Go.Proofs.YtlliliddljkbfaaGreat.Sp
open Go
def pre(s:BY):Nat->List UInt8->Bool
 |_,[]=>true
 |i,a::r=>pk s i==(a.toNat:Int)&&pre s (i+1) r
theorem drop_cons{s:BY}{i:Nat}(h:i<s.size):s.data.toList.drop i=s[i]::s.data.toList.drop (i+1):=by rw[List.drop_eq_getElem_cons (by simpa using h)];rfl
theorem afS(a b:UInt8):((a.toNat:Int)==(b.toNat:Int))=(b==a):=by
 rw[Bool.eq_iff_iff];simp only[beq_iff_eq];constructor
 .intro h;exact(UInt8.toNat_inj.1 AF).symm
 .intro h;rw[h]
theorem xI(s:BY):∀(l:List UInt8) (i:Nat),l.isPrefixOf (s.data.toList.drop i)=pre s i l
 |[],i=>by simp[pre]
 |a::r,i=>by
  by_cases h:i<s.size
  .rw[drop_cons h,List.isPrefixOf,xI s r (i+1),pre,zK h,afS]
  .have:s.data.toList.drop i=[]:=List.drop_eq_nil_of_le (by simpa using h);rw[this,pre,oK (by omega)];have:((-1:Int)==(a.toNat:Int))=false:=by rw[beq_eq_false_iff_ne];omega
   rw[this];simp
theorem afT(s:BY)(i:Nat)(l:BY):Lib.hasPrefix (s.extract i s.size).data.toList l.data.toList=pre s i l.data.toList:=by rw[Lib.extract_to_end,Lib.hasPrefix,xI]
theorem Fg(s:BY):∀f k,s.size<=k+f->k<=s.size->Lib.index (s.data.toList.drop k) [42,47]=if lY s f k<s.size then((lY s f k:Nat):Int)-k else -1
 |0,k,h,h'=>by have:s.data.toList.drop k=[]:=List.drop_eq_nil_of_le (by simp;exact h);rw[this,lY,if_neg (by omega)];rfl
 |f+1,k,h,h'=>by
  by_cases hk:k<s.size
  .have hp:([42,47]:List UInt8).isPrefixOf (s[k]::s.data.toList.drop (k+1))=(pk s k==42&&pk s (k+1)==47):=by
    rw[<-drop_cons hk,xI];simp[pre]
   rw[drop_cons hk,Lib.index,hp];by_cases hs:pk s k=42/\pk s (k+1)=47
   .have e1:lY s (f+1) k=k:=by unfold lY;rw[if_neg (fun h=>h.2 hs)]
    have e2:(pk s k==42&&pk s (k+1)==47)=true:=by simp[hs]
    rw[e1,e2,if_pos rfl,if_pos hk];omega
   .have e1:lY s (f+1) k=lY s f (k+1):=by
     conv=>lhs;unfold lY
     rw[if_pos ⟨hk,hs⟩]
    have e2:(pk s k==42&&pk s (k+1)==47)=false:=by rw[Bool.eq_false_iff];intro h;exact hs (by simpa using h)
    have hge:=BF s f (k+1);rw[e1,e2,if_neg (by simp),Fg s f (k+1) (by omega) (by omega)];by_cases h2:lY s f (k+1)<s.size
    .rw[if_pos h2,if_pos h2,if_neg (by rw[beq_iff_eq];omega)];omega
    .rw[if_neg h2,if_neg h2,if_pos (by rfl)]
  .have hd:s.data.toList.drop k=[]:=List.drop_eq_nil_of_le (by simp;omega);have hge:=BF s (f+1) k;rw[hd,if_neg (by omega)];rfl
theorem Ia{s:BY}{k:Nat}(h:k<=s.size):Lib.index (s.extract k s.size).data.toList [42,47]=if star s k<s.size then((star s k:Nat):Int)-k else -1:=by rw[Lib.extract_to_end];exact Fg s s.size k AF h
theorem KW{s:BY}{k:Nat}(h:k<=s.size)(h':star s k<s.size):Lib.index (s.extract k s.size).data.toList [42,47]=((star s k:Nat):Int)-k:=by rw[Ia h,if_pos h']
theorem Ib{s:BY}{k:Nat}(h:k<=s.size)(h':s.size<=star s k):Lib.index (s.extract k s.size).data.toList [42,47] = -1:=by rw[Ia h,if_neg (by omega)]
end Go.Proofs.YtlliliddljkbfaaGreat.Sp
namespace Go.Proofs.YtlliliddljkbfaaGreat
open Go.Proofs.Tryz (prog)
open Go.RowKit Sp
def a0(s:BY)(k:Nat):Int:=if k<s.size then pk s k else 0
end Go.Proofs.YtlliliddljkbfaaGreat
namespace Go.Proofs.YtlliliddljkbfaaGreat
open Go
def akK(P:Program)(c:Code)(Q:Exit->Act->World->Prop):Exit->Act->World->Prop
 |.goto l,a,w=>∃rest,findLabel c l=some rest/\rest.wp P (Exit.noGoto Q) a w
 |e,a,w=>Q e a w
structure Fwd(P:Program)(c:Code)(Q Q':Exit->Act->World->Prop):Prop where
 go:∀l rest a w,findLabel c l=some rest->rest.wp P (Exit.noGoto Q) a w->Q' (.goto l) a w
 norm:∀a w,Q .normal a w->Q' .normal a w
 ret:∀a w,Q .ret a w->Q' .ret a w
 any:∀e a w,Exit.noGoto Q e a w->Q' e a w
theorem ji{P:Program}{c:Code}{Q:Exit->Act->World->Prop}{a:Act}{w:World}
  (h:∀Q':Exit->Act->World->Prop,Fwd P c Q Q'->c.wp P Q' a w):(Code.scope c).wp P Q a w:=by
 have h':=h (akK P c Q) ⟨fun l rest a w hf hr=>⟨rest,hf,hr⟩,fun a w hq=>hq,fun a w hq=>hq,fun e a w hq=>by cases e<;>first|exact hq|exact hq.elim⟩;intro b k cs;obtain⟨e,a₁,w₁,hq,harr⟩:=h' b (.inScope c::k) cs;cases e with
 |normal=>exact⟨.normal,a₁,w₁,hq,.head step_scope (Steps.trans harr (.one step_inScope))⟩
 |exit id=>exact⟨.exit id,a₁,w₁,hq,fun k' hk=>.head step_scope (harr k' (by simp[exitTo,hk]))⟩
 |goto l=>
  obtain⟨rest,hf,hr⟩:=hq;have hg:gotoIn l (.inScope c::k)=some (.code rest :: .inScope c::k):=by simp[gotoIn,hf]
  obtain⟨e₂,a₂,w₂,hq₂,harr₂⟩:=hr b (.inScope c::k) cs;have hs:=Steps.head (P:=P) step_scope (harr _ hg);cases e₂ with
  |normal=>exact⟨.normal,a₂,w₂,hq₂,Steps.trans hs (Steps.trans harr₂ (.one step_inScope))⟩
  |exit id=>exact⟨.exit id,a₂,w₂,hq₂,fun k' hk=>Steps.trans hs (harr₂ k' (by simp[exitTo,hk]))⟩
  |goto l'=>exact hq₂.elim
  |ret=>exact⟨_,a₂,w₂,hq₂,.of_steps hs harr₂⟩
  |panic ch=>exact⟨_,a₂,w₂,hq₂,.of_steps hs harr₂⟩
  |outgrown=>exact⟨_,a₂,w₂,hq₂,.of_steps hs harr₂⟩
 |ret=>exact⟨_,a₁,w₁,hq,.of_steps (.one step_scope) harr⟩
 |panic ch=>exact⟨_,a₁,w₁,hq,.of_steps (.one step_scope) harr⟩
 |outgrown=>exact⟨_,a₁,w₁,hq,.of_steps (.one step_scope) harr⟩
end Go.Proofs.YtlliliddljkbfaaGreat
namespace Go.Proofs.YtlliliddljkbfaaGreat
open Go.Proofs.Tryz (prog)
open Go.RowKit Sp
def aB(b:Nat)(s:BY)(k:Nat)(w w':WD):Prop:=Sc w' b s k/\Turn b w w'
theorem aB.drewN{b k:Nat}{s:BY}{w w':WD}(h:aB b s k w w')(n:Nat):aB b s k w (w'.drewN n):=⟨h.1.drewN n,h.2.drewN n⟩
theorem aB.set{b k:Nat}{s:BY}{w w':WD}(h:aB b s k w w')(j:Nat)(hj:j<=s.size):aB b s j w (w'.setCell ⟨b,1,none⟩ (.int .i64 (j:Int))):=⟨h.1.set j hj,h.2.setCell 1 _⟩
theorem aB.alloc{b k:Nat}{s:BY}{w w':WD}(h:aB b s k w w')(o:Obj):aB b s k w (w'.alloc o):=⟨h.1.alloc o,h.2.alloc o⟩
theorem aB.refl{b k:Nat}{s:BY}{w:WD}(h:Sc w b s k):aB b s k w w:=⟨h,Turn.refl _ _⟩
theorem aB.nh{b k:Nat}{s:BY}{w:WD}(h:Sc w b s k):Hid (aB b s k w (w.alloc (.cells #[.int .i64 0,.string ⟨#[]⟩,.string ⟨#[]⟩] 93 (0,0)))):=(aB.refl h).alloc _
theorem aB.trans{b j k:Nat}{s:BY}{w w1 w2:WD}(h:aB b s j w w1)(h':aB b s k w1 w2):aB b s k w w2:=⟨h'.1,h.2.trans h'.2⟩
theorem Sc.iP{w:WD}{b i:Nat}{s:BY}(h:Sc w b s i)(v:Int)(j:Nat)(hv:v=j)(hj:j<=s.size):Sc (w.setCell ⟨b,1,none⟩ (.int .i64 v)) b s j:=by rw[hv];exact h.set j hj
theorem aB.iP{b k:Nat}{s:BY}{w w':WD}(h:aB b s k w w')(v:Int)(j:Nat)(hv:v=j)(hj:j<=s.size):aB b s j w (w'.setCell ⟨b,1,none⟩ (.int .i64 v)):=by rw[hv];exact h.set j hj
theorem Vx(i:Nat):(i:Int)+1=((i+1:Nat):Int):=oo
theorem Ap(s:BY)(b i:Nat)(w:WD)(h:Sc w b s i)(hi:i<s.size):
  Calls prog 185 #[.pointer (some ⟨b,0,none⟩)] w fun e w'=>e=.returned (.string (one s i))/\aB b s (i+1) w w':=by
 have HS:=hid h;have h0:=h.c0;have h1:=h.c1;have hf:=h.f1;have hl:=h.lt;have hs:=h.len;clear h;go_in;go_wp2
 go_quiet (fail)
 go_wp2
 go_ret;refine⟨rfl,?_⟩;rw[Vx];exact((aB.refl HS.o).set (i+1) oo).drewN _
theorem lg(s:BY)(b i:Nat)(w:WD)(h:Sc w b s i):
  Calls prog 176 #[.pointer (some ⟨b,0,none⟩)] w fun e w'=>e=.returned (.tuple #[])/\aB b s (Sp.blk s i) w w':=by
 have HS:=hid h;clear h;go_in;go_wp2_with fail;refine ji (fun Q' hF=>?_);go_wp2_with fail;go_loopg[] s.size (fun g wr=>∃k:Nat,s.size<=k+g/\Aside (Ae s g k=Sp.blk s i/\aB b s k w wr));case atStart=>exact⟨i,oo,rfl,aB.refl HS.o⟩
 case round=>
  obtain⟨k,hk,hA⟩:=hrel;have H1:=hid hA.o.1;have H2:=hid hA.o.2;clear hA;have h0:=H2.o.1.c0;have h1:=H2.o.1.c1;have hf:=H2.o.1.f1;have hl:=H2.o.1.lt;have hs:=H2.o.1.len;cases hbl:aO (pk s k)
  .have HV:Hid (Sp.blk s i=k):=by
    show Sp.blk s i=k;rw[<-H1.o];cases gk with
    |zero=>rfl
    |succ f=>unfold Ae;rw[if_neg (by simp[hbl])]
   go_wp2_with fail;refine(ak s b k _ k _ H2.o.1 ⟨oo,oo,oo⟩).mono ?_;rintro e w1 ⟨rfl,n1,rfl⟩;go_wp2_with fail;refine(aW _ _).mono ?_;rintro e w1 ⟨rfl,rfl⟩;go_wp2_with fail;go_step3
   refine hF.go 0 _ _ _ rfl ?_;go_wp2
   simp only[Exit.noGoto];go_end0
   refine⟨rfl,?_⟩;rw[HV.o];exact H2.o.drewN _
  .have hlt:k<s.size:=dY (lZ hbl);obtain⟨f,rfl⟩:∃f,gk=f+1:=⟨gk-1,oo⟩;have HV:Hid (Ae s f (k+1)=Sp.blk s i):=by
    have:=H1.o;unfold Ae at this;rw[if_pos hbl]at this;exact this
   go_wp2_with fail;refine(ak s b k _ k _ H2.o.1 ⟨oo,oo,oo⟩).mono ?_;rintro e w1 ⟨rfl,n1,rfl⟩;go_wp2_with fail;refine(aW _ _).mono ?_;rintro e w1 ⟨rfl,rfl⟩;go_wp2_with fail;go_roundg f;case measure=>omega
   case rel=>rw[Vx];exact⟨k+1,oo,HV.o,(H2.o.drewN _).set (k+1) oo⟩
theorem Ic(s:BY)(b i:Nat)(w:WD)(h:Sc w b s i)(hlt:i<s.size):
  Calls prog 288 #[.pointer (some ⟨b,0,none⟩)] w fun e w'=>e=.returned (.string (one s i))/\aB b s (i+1) w w':=by
 have W:Hid (aB b s i w w):=aB.refl h;clear h;have hne:(pk s i == -1)=false:=by have:=tK hlt;simp;omega
 go_in;go_wp2_with fail;refine cZ (ak s b (i) _ (i) _ (W.o.1) ⟨oo,oo,oo⟩) fun nq=>?_;go_wp2_with fail;refine pmb (Ap s b i _ (W.o.1.drewN _) hlt) fun w1 aj=>?_;have W1:Hid (aB b s (i+1) w w1):=(W.o.drewN _).trans aj;clear aj;go_wp2_with fail;go_ret;exact⟨rfl,W1.o⟩
theorem FV(s:BY)(b i:Nat)(w:WD)(h:Sc w b s i)(hlt:s.size<=i):
  Calls prog 288 #[.pointer (some ⟨b,0,none⟩)] w fun e w'=>e=.returned (.string Ec)/\aB b s i w w':=by
 have W:Hid (aB b s i w w):=aB.refl h;clear h;have hne:(pk s i == -1)=true:=by rw[oK hlt];rfl
 go_in;go_wp2_with fail;refine cZ (ak s b (i) _ (i) _ (W.o.1) ⟨oo,oo,oo⟩) fun nq=>?_;go_wp2_with fail;go_ret;exact⟨rfl,W.o.drewN _⟩
