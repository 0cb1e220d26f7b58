import Derived.Test.YtlliliddljkbfaaGreatRows
import Derived.WalkSpells
import Derived.WalkLawsBesides
import Derived.Handy
import Derived.Deep.RegionHeld
import Derived.Deep.LoopGhost
import Derived.BigQuiet
set_option maxHeartbeats 64000000
set_option maxRecDepth 100000
namespace Go.Proofs.YtlliliddljkbfaaGreat.Sp
abbrev BY:=ByteArray
theorem AF{p:Prop}(h:p:=by omega):p:=h
def pk(s:BY)(i:Nat):Int:=if h:i<s.size then(s[i].toNat:Int) else -1
def aO(c:Int):Bool:=c==10||c==9||c==32
def fG(c:Int):Bool:=decide (48<=c)&&decide (c<=57)
def kK(c:Int):Bool:=(decide (97<=c)&&decide (c<=122))||(decide (65<=c)&&decide (c<=90))||c==95||decide (127<c)
def lX(c:Int):Bool:=kK c||fG c||c==45
def ou(c:Int):Bool:=c==43||c==45
def dD(c:Int):Bool:=c==34||c==39
def Eb(c:Int):Bool:=dD c||c==40||c==92||decide (c<32)||c==127
def xk(c:Int):Int:=if fG c=true then c-48 else if 97<=c/\c<=102 then c-97+10 else if 65<=c/\c<=70 then c-65+10 else -1
def one(s:BY)(i:Nat):BY:=s.extract i (i+1)
def kY(s:BY)(i:Nat):Bool:=pk s i==92&&pk s (i+1) != 10
def jT(s:BY)(i:Nat):Bool:=lX (pk s i)||kY s i
def iG(s:BY)(i:Nat):Bool:=if pk s i=45 then kK (pk s (i+1))||pk s (i+1)==45||kY s (i+1) else kK (pk s i)||kY s i
def tJ(s:BY):Nat->Nat->Nat->Nat×Nat
 |0,i,n=>(n,i)
 |f+1,i,n=>if 0<=xk (pk s i) then tJ s f (i+1) (n*16+(xk (pk s i)).toNat) else(n,i)
def Ec:BY:=⟨#[63]⟩
def E8(n:Nat):BY:=⟨#[UInt8.ofNat n]⟩
def esc(s:BY)(i:Nat):BY×Nat:=
 let r:=tJ s 6 (i+1) 0
 if r.2=i+1 then(if i+1<s.size then(one s (i+1),i+2) else(Ec,i+1))
 else(if 1<=r.1/\r.1<=255 then E8 r.1 else Ec,if aO (pk s r.2)=true then r.2+1 else r.2)
def iK(s:BY):Nat->Nat->BY->BY×Nat
 |0,i,acc=>(acc,i)
 |f+1,i,acc=>
  if lX (pk s i)=true then iK s f (i+1) (acc++one s i)
  else if kY s i=true then iK s f (esc s i).2 (acc++(esc s i).1)
  else(acc,i)
def name(s:BY)(i:Nat):BY×Nat:=iK s s.size i ByteArray.empty
def Ae(s:BY):Nat->Nat->Nat
 |0,i=>i
 |f+1,i=>if aO (pk s i)=true then Ae s f (i+1) else i
def blk(s:BY)(i:Nat):Nat:=Ae s s.size i
def wU(s:BY):Nat->Nat->Nat
 |0,i=>i
 |f+1,i=>if fG (pk s i)=true then wU s f (i+1) else i
def mW(s:BY)(i:Nat):Nat:=wU s s.size i
def mX(s:BY)(i:Nat):Nat:=if ou (pk s i)=true then i+1 else i
def iO(s:BY)(i:Nat):Bool:=fG (pk s (mX s i))||(pk s (mX s i)==46&&fG (pk s (mX s i+1)))
def iq(s:BY)(k:Nat):Nat:=if pk s k=101\/pk s k=69 then(if fG (pk s (mX s (k+1)))=true then mW s (mX s (k+1)) else k) else k
def jL(s:BY)(k:Nat):Nat:=if pk s k=46/\fG (pk s (k+1))=true then mW s (k+1) else k
def bT(s:BY)(i:Nat):Nat:=iq s (jL s (mW s (mX s i)))
def lY(s:BY):Nat->Nat->Nat
 |0,k=>k
 |f+1,k=>if k<s.size/\¬(pk s k=42/\pk s (k+1)=47) then lY s f (k+1) else k
def star(s:BY)(k:Nat):Nat:=lY s s.size k
def Bv(s:BY):Nat->Nat->Nat
 |0,i=>i
 |f+1,i=>if pk s i=47/\pk s (i+1)=42 then(if s.size<=star s (i+2) then s.size else Bv s f (star s (i+2)+2)) else i
def com(s:BY)(i:Nat):Nat:=Bv s s.size i
structure Tok where
 kind:Int
 word:BY
 unit:BY
def Tok.k(n:Int):Tok:=⟨n,ByteArray.empty,ByteArray.empty⟩
def Tok.w(n:Int)(x:BY):Tok:=⟨n,x,ByteArray.empty⟩
def lK(s:BY)(q:Int):Nat->Nat->BY->Tok×Nat
 |0,i,acc=>(Tok.w 2 acc,i)
 |f+1,i,acc=>
  if s.size<=i then(Tok.w 2 acc,i)
  else if pk s i=q then(Tok.w 2 acc,i+1)
  else if pk s i=10 then(Tok.k 3,i)
  else if pk s i=92 then
   (if s.size<=i+1 then lK s q f (i+1) acc
    else if pk s (i+1)=10 then lK s q f (i+2) acc
    else lK s q f (esc s i).2 (acc++(esc s i).1))
  else lK s q f (i+1) (acc++one s i)
def txt(s:BY)(q:Int)(i:Nat):Tok×Nat:=lK s q s.size i ByteArray.empty
def Ed(s:BY):Nat->Nat->Nat
 |0,i=>i
 |f+1,i=>
  if s.size<=i then i
  else if pk s i=41 then i+1
  else if kY s i=true then Ed s f (esc s i).2
  else Ed s f (i+1)
def bad(s:BY)(i:Nat):Nat:=Ed s s.size i
def jd(s:BY):Nat->Nat->BY->Tok×Nat
 |0,i,acc=>(Tok.w 12 acc,i)
 |f+1,i,acc=>
  if s.size<=i then(Tok.w 12 acc,i)
  else if pk s i=41 then(Tok.w 12 acc,i+1)
  else if aO (pk s i)=true then
   (if s.size<=blk s i then(Tok.w 12 acc,blk s i)
    else if pk s (blk s i)=41 then(Tok.w 12 acc,blk s i+1)
    else(Tok.k 13,bad s (blk s i)))
  else if kY s i=true then jd s f (esc s i).2 (acc++(esc s i).1)
  else if Eb (pk s i)=true then(Tok.k 13,bad s i)
  else jd s f (i+1) (acc++one s i)
def link(s:BY)(i:Nat):Tok×Nat:=jd s s.size i ByteArray.empty
def jr(c:UInt8):UInt8:=if 65<=c/\c<=90 then c+32 else c
def small(s:BY):BY:=⟨(s.data.toList.map jr).toArray⟩
def url:BY:=⟨#[117,114,108]⟩
def numeric(s:BY)(i:Nat):Tok×Nat:=
 let k:=bT s i
 if pk s k=37 then(Tok.w 6 (s.extract i k),k+1)
 else if iG s k=true then(⟨7,s.extract i k,(name s k).1⟩,(name s k).2)
 else(Tok.w 5 (s.extract i k),k)
def named(s:BY)(i:Nat):Tok×Nat:=
 let r:=name s i
 if pk s r.2=40 then
  (if small r.1=url/\dD (pk s (blk s (r.2+1)))=false then link s (blk s (r.2+1))
   else(Tok.w 11 r.1,r.2+1))
 else(Tok.w 14 r.1,r.2)
def kG(s:BY)(i:Nat):Bool:=pk s i==60&&pk s (i+1)==33&&pk s (i+2)==45&&pk s (i+3)==45
def kL(s:BY)(i:Nat):Bool:=pk s i==45&&pk s (i+1)==45&&pk s (i+2)==62
def token(s:BY)(i:Nat):Tok×Nat:=
 if aO (pk s i)=true then(Tok.k 1,blk s i)
 else if dD (pk s i)=true then txt s (pk s i) (i+1)
 else if pk s i=35/\jT s (i+1)=true then(Tok.w 4 (name s (i+1)).1,(name s (i+1)).2)
 else if iO s i=true then numeric s i
 else if kG s i=true then(Tok.k 8,i+4)
 else if kL s i=true then(Tok.k 9,i+3)
 else if pk s i=64/\iG s (i+1)=true then(Tok.w 10 (name s (i+1)).1,(name s (i+1)).2)
 else if iG s i=true then named s i
 else(Tok.w 15 (one s i),i+1)
def tokF(s:BY):Nat->Nat->List Tok
 |0,_=>[]
 |f+1,i=>if s.size<=i then [] else(token s i).1::tokF s f (com s (token s i).2)
def toks(s:BY):List Tok:=tokF s s.size (com s 0)
def ZO(s:BY)(i:Nat):List UInt8:=
 if h:i<s.size then
  (if s[i]=13/\pk s (i+1)=10 then [] else if s[i]=13\/s[i]=12 then [10] else if s[i]=0 then [63] else [s[i]])
 else []
def bC(s:BY):Nat->List UInt8
 |0=>[]
 |k+1=>bC s k++ZO s k
def clean(s:BY):BY:=⟨(bC s s.size).toArray⟩
theorem zK{s:BY}{i:Nat}(h:i<s.size):pk s i=(s[i].toNat:Int):=by unfold pk;rw[dif_pos h]
theorem oK{s:BY}{i:Nat}(h:s.size<=i):pk s i = -1:=by unfold pk;rw[dif_neg (by omega)]
theorem abT(s:BY)(i:Nat): -1<=pk s i:=by unfold pk;split<;>omega
theorem Yj(s:BY)(i:Nat):pk s i<=255:=by
 unfold pk;split
 .have:=(s[i]).toNat_lt;omega
 .omega
theorem dY{s:BY}{i:Nat}(h:0<=pk s i):i<s.size:=by
 by_cases h1:i<s.size
 .exact h1
 .rw[oK (by omega)]at h;omega
theorem tK{s:BY}{i:Nat}(h:i<s.size):0<=pk s i:=by rw[zK h];omega
theorem lZ{c:Int}(h:aO c=true):0<=c:=by simp[aO]at h;omega
theorem kM{c:Int}(h:fG c=true):48<=c/\c<=57:=by simp[fG]at h;exact h
theorem afG{c:Int}(h:kK c=true):0<=c:=by simp[kK]at h;omega
theorem uV{c:Int}(h:lX c=true):0<=c:=by
 simp only[lX,Bool.or_eq_true,beq_iff_eq]at h;rcases h with (h|h)|h
 .exact afG h
 .have:=kM h;omega
 .omega
theorem Yk{c:Int}(h:ou c=true):0<=c:=by simp[ou]at h;omega
theorem abU{c:Int}(h:dD c=true):0<=c:=by simp[dD]at h;omega
theorem abV{c:Int}(h:0<=xk c):0<=c:=by
 unfold xk at h;split at h
 .rename_i h1;have:=kM h1;omega
 .split at h
  .omega
  .split at h<;>omega
theorem aiJ(c:Int):xk c<=15:=by
 unfold xk;split
 .rename_i h1;have:=kM h1;omega
 .split
  .omega
  .split<;>omega
theorem aiK(c:Int): -1<=xk c:=by
 unfold xk;split
 .rename_i h1;have:=kM h1;omega
 .split
  .omega
  .split<;>omega
theorem abW{s:BY}{i:Nat}(h:kY s i=true):pk s i=92/\pk s (i+1)≠10:=by simpa[kY]using h
theorem Oc{s:BY}{i:Nat}(h:kY s i=true):i<s.size:=dY (by have:=(abW h).1;omega)
theorem iQ{s:BY}{i:Nat}(h:i<s.size):(one s i).size=1:=by simp[one];omega
theorem Yl(s:BY):∀f i n,i<=(tJ s f i n).2
 |0,i,n=>Nat.le_refl _
 |f+1,i,n=>by
  unfold tJ;split
  .have:=Yl s f (i+1) (n*16+(xk (pk s i)).toNat);omega
  .exact Nat.le_refl _
theorem Ym(s:BY):∀f i n,i<=s.size->(tJ s f i n).2<=s.size
 |0,i,n,h=>h
 |f+1,i,n,h=>by
  unfold tJ;split
  .rename_i h1;exact Ym s f (i+1) _ (dY (abV h1))
  .exact h
theorem oL(s:BY)(i:Nat):i<(esc s i).2:=by
 have h:=Yl s 6 (i+1) 0;unfold esc;dsimp only
 split
 .split<;>dsimp only<;>omega
 .dsimp only;split<;>omega
theorem uX{s:BY}{i:Nat}(hi:i<s.size):(esc s i).2<=s.size:=by
 have h:=Ym s 6 (i+1) 0 AF;unfold esc;dsimp only
 split
 .split<;>dsimp only<;>omega
 .dsimp only
  split
  .rename_i h1;have:=dY (lZ h1);omega
  .exact h
theorem kN{s:BY}{i:Nat}:(esc s i).1.size=1:=by
 unfold esc;dsimp only
 split
 .split
  .rename_i h;exact iQ h
  .rfl
 .dsimp only;split<;>rfl
theorem xq(s:BY):∀f i acc,i<=(iK s f i acc).2
 |0,i,acc=>Nat.le_refl _
 |f+1,i,acc=>by
  unfold iK;split
  .have:=xq s f (i+1) (acc++one s i);omega
  .split
   .have:=xq s f (esc s i).2 (acc++(esc s i).1);have:=oL s i;omega
   .exact Nat.le_refl _
theorem GV(s:BY):∀f i acc,i<=s.size->(iK s f i acc).2<=s.size
 |0,i,acc,h=>h
 |f+1,i,acc,h=>by
  unfold iK;split
  .rename_i h1;exact GV s f (i+1) _ (dY (uV h1))
  .split
   .rename_i h1;exact GV s f _ _ (uX (Oc h1))
   .exact h
theorem Oe(s:BY)(i:Nat):i<=(name s i).2:=xq _ _ _ _
theorem yV{s:BY}{i:Nat}(h:i<=s.size):(name s i).2<=s.size:=GV _ _ _ _ h
theorem afH{s:BY}{i:Nat}(h:jT s i=true):i<(name s i).2:=by
 have hl:i<s.size:=by
  simp only[jT,Bool.or_eq_true]at h;rcases h with h|h
  .exact dY (uV h)
  .exact Oc h
 unfold name;obtain⟨f,hf⟩:∃f,s.size=f+1:=⟨s.size-1,by omega⟩;rw[hf];unfold iK;split
 .have:=xq s f (i+1) (ByteArray.empty++one s i);omega
 .split
  .have:=xq s f (esc s i).2 (ByteArray.empty++(esc s i).1);have:=oL s i;omega
  .rename_i h1 h2;simp[jT,h1,h2]at h
theorem xu{s:BY}{i:Nat}(h:iG s i=true):jT s i=true:=by
 unfold iG at h;split at h
 .rename_i h1;simp[jT,lX,h1]
 .simp only[Bool.or_eq_true]at h;rcases h with h|h
  .simp[jT,lX,h]
  .simp[jT,h]
theorem Og(s:BY):∀f i,i<=Ae s f i
 |0,i=>Nat.le_refl _
 |f+1,i=>by
  unfold Ae;split
  .have:=Og s f (i+1);omega
  .exact Nat.le_refl _
theorem Yn(s:BY):∀f i,i<=s.size->Ae s f i<=s.size
 |0,i,h=>h
 |f+1,i,h=>by
  unfold Ae;split
  .rename_i h1;exact Yn s f (i+1) (dY (lZ h1))
  .exact h
theorem Ee(s:BY)(i:Nat):i<=blk s i:=Og _ _ _
theorem Oh{s:BY}{i:Nat}(h:i<=s.size):blk s i<=s.size:=Yn _ _ _ h
theorem Vp{s:BY}{i:Nat}(h:aO (pk s i)=true):i<blk s i:=by have hl:=dY (lZ h);unfold blk;obtain⟨f,hf⟩:∃f,s.size=f+1:=⟨s.size-1,by omega⟩;rw[hf];unfold Ae;rw[if_pos h];have:=Og s f (i+1);omega
theorem Oi(s:BY):∀f i,i<=wU s f i
 |0,i=>Nat.le_refl _
 |f+1,i=>by
  unfold wU;split
  .have:=Oi s f (i+1);omega
  .exact Nat.le_refl _
theorem Yo(s:BY):∀f i,i<=s.size->wU s f i<=s.size
 |0,i,h=>h
 |f+1,i,h=>by
  unfold wU;split
  .rename_i h1;exact Yo s f (i+1) (dY (by have:=kM h1;omega))
  .exact h
theorem xw(s:BY)(i:Nat):i<=mW s i:=Oi _ _ _
theorem GX{s:BY}{i:Nat}(h:i<=s.size):mW s i<=s.size:=Yo _ _ _ h
theorem GY{s:BY}{i:Nat}(h:fG (pk s i)=true):i<mW s i:=by have hl:i<s.size:=dY (by have:=kM h;omega);unfold mW;obtain⟨f,hf⟩:∃f,s.size=f+1:=⟨s.size-1,by omega⟩;rw[hf];unfold wU;rw[if_pos h];have:=Oi s f (i+1);omega
theorem Qm{s:BY}{i:Nat}(h:fG (pk s i)=false):mW s i=i:=by
 unfold mW;cases hf:s.size with
 |zero=>rfl
 |succ f=>unfold wU;rw[if_neg (by simp[h])]
theorem Ef(s:BY)(i:Nat):i<=mX s i:=by unfold mX;split<;>omega
theorem aiL{s:BY}{i:Nat}(h:i<=s.size):mX s i<=s.size:=by
 unfold mX;split
 .rename_i h1;have:=dY (Yk h1);omega
 .exact h
theorem afI(s:BY)(i:Nat):mX s i<=i+1:=by unfold mX;split<;>omega
theorem Oj(s:BY)(k:Nat):k<=iq s k:=by
 unfold iq;split
 .split
  .have:=xw s (mX s (k+1));have:=Ef s (k+1);omega
  .exact Nat.le_refl _
 .exact Nat.le_refl _
theorem afJ{s:BY}{k:Nat}(h:k<=s.size):iq s k<=s.size:=by
 unfold iq;split
 .split
  .rename_i h2;exact GX (by have:=dY (s:=s) (i:=mX s (k+1)) (by have:=kM h2;omega);omega)
  .exact h
 .exact h
theorem Bz(s:BY)(k:Nat):k<=jL s k:=by
 unfold jL;split
 .have:=xw s (k+1);omega
 .exact Nat.le_refl _
theorem abX{s:BY}{k:Nat}(h:k<=s.size):jL s k<=s.size:=by
 unfold jL;split
 .rename_i h2;exact GX (by have:=dY (s:=s) (i:=k+1) (by have:=kM h2.2;omega);omega)
 .exact h
theorem yX{s:BY}{i:Nat}(h:i<=s.size):bT s i<=s.size:=afJ (abX (GX (aiL h)))
theorem yY{s:BY}{i:Nat}(h:iO s i=true):i<bT s i:=by
 have h1:=Ef s i;have h3:=Bz s (mW s (mX s i));have h4:=Oj s (jL s (mW s (mX s i)));unfold bT;simp only[iO,Bool.or_eq_true,Bool.and_eq_true,beq_iff_eq]at h;rcases h with h|⟨h,h'⟩
 .have:=GY h;omega
 .have e:fG (pk s (mX s i))=false:=by rw[h];rfl
  have h5:jL s (mX s i)=mW s (mX s i+1):=by unfold jL;rw[if_pos ⟨h,h'⟩]
  have:=xw s (mX s i+1);rw[Qm e]at h3 h4⊢;omega
theorem afK(s:BY)(i:Nat):i<=bT s i:=by have h1:=Ef s i;have h2:=xw s (mX s i);have h3:=Bz s (mW s (mX s i));have h4:=Oj s (jL s (mW s (mX s i)));unfold bT;omega
theorem BF(s:BY):∀f k,k<=lY s f k
 |0,k=>Nat.le_refl _
 |f+1,k=>by
  unfold lY;split
  .have:=BF s f (k+1);omega
  .exact Nat.le_refl _
theorem Qn(s:BY):∀f k,k<=s.size->lY s f k<=s.size
 |0,k,h=>h
 |f+1,k,h=>by
  unfold lY;split
  .exact Qn s f (k+1) AF
  .exact h
theorem Ol(s:BY)(k:Nat):k<=star s k:=BF _ _ _
theorem afL{s:BY}{k:Nat}(h:k<=s.size):star s k<=s.size:=Qn _ _ _ h
theorem Qo(s:BY):∀f k,s.size<=k+f->lY s f k<s.size->pk s (lY s f k)=42/\pk s (lY s f k+1)=47
 |0,k,h,h'=>by unfold lY at h';omega
 |f+1,k,h,h'=>by
  unfold lY at h' ⊢;split
  .rename_i h1;rw[if_pos h1]at h';exact Qo s f (k+1) AF h'
  .rename_i h1;rw[if_neg h1]at h';exact Classical.byContradiction fun hn=>h1 ⟨h',hn⟩
theorem afM{s:BY}{k:Nat}(h:star s k<s.size):pk s (star s k)=42/\pk s (star s k+1)=47:=Qo _ _ _ AF h
theorem GZ{s:BY}{k:Nat}(h:star s k<s.size):star s k+2<=s.size:=by have:=dY (s:=s) (i:=star s k+1) (by have:=(afM h).2;omega);omega
theorem Yp(s:BY):∀f i,i<=s.size->i<=Bv s f i
 |0,i,_=>Nat.le_refl _
 |f+1,i,h=>by
  unfold Bv;split
  .split
   .exact h
   .rename_i h2;have h3:=Ol s (i+2);have h4:=GZ (s:=s) (k:=i+2) AF;have:=Yp s f (star s (i+2)+2) h4;omega
  .exact Nat.le_refl _
theorem Yq(s:BY):∀f i,i<=s.size->Bv s f i<=s.size
 |0,i,h=>h
 |f+1,i,h=>by
  unfold Bv;split
  .split
   .exact Nat.le_refl _
   .exact Yq s f _ (GZ AF)
  .exact h
theorem Vq{s:BY}{i:Nat}(h:i<=s.size):i<=com s i:=Yp _ _ _ h
theorem Af{s:BY}{i:Nat}(h:i<=s.size):com s i<=s.size:=Yq _ _ _ h
theorem BG(s:BY)(q:Int):∀f i acc,i<=(lK s q f i acc).2
 |0,i,acc=>Nat.le_refl _
 |f+1,i,acc=>by
  unfold lK;split
  .exact Nat.le_refl _
  .split
   .exact Nat.le_succ _
   .split
    .exact Nat.le_refl _
    .split
     .split
      .have:=BG s q f (i+1) acc;omega
      .split
       .have:=BG s q f (i+2) acc;omega
       .have:=BG s q f (esc s i).2 (acc++(esc s i).1);have:=oL s i;omega
     .have:=BG s q f (i+1) (acc++one s i);omega
theorem BH(s:BY)(q:Int):∀f i acc,i<=s.size->(lK s q f i acc).2<=s.size
 |0,i,acc,h=>h
 |f+1,i,acc,h=>by
  unfold lK;split
  .exact h
  .split
   .show i+1<=s.size;omega
   .split
    .exact h
    .split
     .split
      .exact BH s q f _ _ AF
      .split
       .rename_i h5 h6;exact BH s q f _ _ (by have:=dY (s:=s) (i:=i+1) AF;omega)
       .exact BH s q f _ _ (uX AF)
     .exact BH s q f _ _ AF
theorem aiM(s:BY)(q:Int)(i:Nat):i<=(txt s q i).2:=BG _ _ _ _ _
theorem aiN{s:BY}{q:Int}{i:Nat}(h:i<=s.size):(txt s q i).2<=s.size:=BH _ _ _ _ _ h
theorem Om(s:BY):∀f i,i<=Ed s f i
 |0,i=>Nat.le_refl _
 |f+1,i=>by
  unfold Ed;split
  .exact Nat.le_refl _
  .split
   .exact Nat.le_succ _
   .split
    .have:=Om s f (esc s i).2;have:=oL s i;omega
    .have:=Om s f (i+1);omega
theorem Oo(s:BY):∀f i,i<=s.size->Ed s f i<=s.size
 |0,i,h=>h
 |f+1,i,h=>by
  unfold Ed;split
  .exact h
  .split
   .omega
   .split
    .exact Oo s f _ (uX AF)
    .exact Oo s f _ AF
theorem Oq(s:BY)(i:Nat):i<=bad s i:=Om _ _ _
theorem abY{s:BY}{i:Nat}(h:i<=s.size):bad s i<=s.size:=Oo _ _ _ h
theorem G7(s:BY):∀f i acc,i<=(jd s f i acc).2
 |0,i,acc=>Nat.le_refl _
 |f+1,i,acc=>by
  unfold jd;split
  .exact Nat.le_refl _
  .split
   .exact Nat.le_succ _
   .split
    .have h1:=Ee s i;have h2:=Oq s (blk s i);split
     .exact h1
     .split
      .show i<=blk s i+1;omega
      .show i<=bad s (blk s i);omega
    .split
     .have:=G7 s f (esc s i).2 (acc++(esc s i).1);have:=oL s i;omega
     .split
      .exact Oq s i
      .have:=G7 s f (i+1) (acc++one s i);omega
theorem G8(s:BY):∀f i acc,i<=s.size->(jd s f i acc).2<=s.size
 |0,i,acc,h=>h
 |f+1,i,acc,h=>by
  unfold jd;split
  .exact h
  .split
   .show i+1<=s.size;omega
   .split
    .have h1:=Oh h;split
     .exact h1
     .split
      .show blk s i+1<=s.size;omega
      .exact abY h1
    .split
     .exact G8 s f _ _ (uX AF)
     .split
      .exact abY h
      .exact G8 s f _ _ AF
theorem afN(s:BY)(i:Nat):i<=(link s i).2:=G7 _ _ _ _
theorem afO{s:BY}{i:Nat}(h:i<=s.size):(link s i).2<=s.size:=G8 _ _ _ _ h
theorem Vr{s:BY}{i:Nat}(h:iO s i=true):i<(numeric s i).2:=by
 have h1:=yY h;have h2:=Oe s (bT s i);unfold numeric;dsimp only
 split
 .dsimp only;omega
 .split<;>dsimp only<;>omega
theorem Vs{s:BY}{i:Nat}(h:i<=s.size):(numeric s i).2<=s.size:=by
 have h1:=yX h;unfold numeric;dsimp only
 split
 .rename_i h2;have:=dY (s:=s) (i:=bT s i) AF;dsimp only;omega
 .split
  .exact yV h1
  .exact h1
theorem abZ{s:BY}{i:Nat}(h:iG s i=true):i<(named s i).2:=by
 have h1:=afH (xu h);have h2:=Ee s ((name s i).2+1);have h3:=afN s (blk s ((name s i).2+1));unfold named;dsimp only
 split
 .split<;>(try dsimp only)<;>omega
 .exact h1
theorem ab1{s:BY}{i:Nat}(h:i<=s.size):(named s i).2<=s.size:=by
 have h1:=yV h;unfold named;dsimp only
 split
 .rename_i h2;have:=dY (s:=s) (i:=(name s i).2) AF;split
  .exact afO (Oh AF)
  .dsimp only;omega
 .exact h1
theorem xA{s:BY}{i:Nat}(_hi:i<s.size):i<(token s i).2:=by
 unfold token;split
 .rename_i h;exact Vp h
 .split
  .have:=aiM s (pk s i) (i+1);omega
  .split
   .have:=Oe s (i+1);dsimp only;omega
   .split
    .rename_i h;exact Vr h
    .split
     .dsimp only;omega
     .split
      .dsimp only;omega
      .split
       .have:=Oe s (i+1);dsimp only;omega
       .split
        .rename_i h;exact abZ h
        .dsimp only;omega
theorem xB{s:BY}{i:Nat}(hi:i<s.size):(token s i).2<=s.size:=by
 unfold token;split
 .exact Oh AF
 .split
  .exact aiN AF
  .split
   .exact yV AF
   .split
    .exact Vs AF
    .split
     .rename_i h;simp[kG]at h;have:=dY (s:=s) (i:=i+3) AF;dsimp only;omega
     .split
      .rename_i h;simp[kL]at h;have:=dY (s:=s) (i:=i+2) AF;dsimp only;omega
      .split
       .exact yV AF
       .split
        .exact ab1 AF
        .dsimp only;omega
end Go.Proofs.YtlliliddljkbfaaGreat.Sp
namespace Go.Proofs.YtlliliddljkbfaaGreat
open Go.Proofs.Tryz (prog)
open Go.RowKit Sp
abbrev WD:=World
abbrev Av:=Value
theorem Nm{α:Type}(a:α):∃x,Hid (a=x):=⟨_,rfl⟩
theorem hid{p:Prop}(h:p):Hid p:=h
theorem Ax{n:Nat}{w:World}:Below n w w:=Below.refl n w
theorem Ay{α:Type}{a:Array α}{i:Nat}{x:α}(h:a[i]?=some x):i<a.size:=(Array.getElem?_eq_some_iff.1 h).1
theorem AC{w v u:World}(h:Below w.heap.size w v)(k:Below v.heap.size v u):Below w.heap.size w u:=h.trans (k.mono h.size)
theorem AE{w v:World}{n:Nat}{x:Obj}(k:Below w.heap.size w v)(h:w.heap[n]?=some x):v.heap[n]?=some x:=(k.block n (Ay h)).trans h
theorem Ab{p:Prop}(h:p:=by simp):p:=h
theorem Al{p:Prop}(h:p:=by decide):p:=h
theorem An{p:Prop}(h:p:=by (simp;omega)):p:=h
theorem Ao{p:Prop}(h:p:=by kernel_rfl):p:=h
theorem As{p:Prop}(h:p:=by (unfold maxLen;omega)):p:=h
theorem aC{a b:Bool}(h:a=b):Ending.returned (.bool a)=.returned (.bool b):=by rw[h]
theorem aiO{k:IntKind}{a b:Int}(h:a=b):Ending.returned (.int k a)=.returned (.int k b):=by rw[h]
theorem aW(c:Int)(w:WD):Calls prog 175 #[.int .i64 c] w fun e w'=>e=.returned (.bool (aO c))/\w'=w:=by
 go_in;go_wp2
 all_goals
  go_ret;exact⟨aC (by rw[Bool.eq_iff_iff];simp[aO, *]<;>omega),rfl⟩
theorem eY(c:Int)(w:WD):Calls prog 241 #[.int .i64 c] w fun e w'=>e=.returned (.bool (fG c))/\w'=w:=by
 go_in;go_wp2
 all_goals
  go_ret;exact⟨aC (by rw[Bool.eq_iff_iff];simp[fG, *]<;>omega),rfl⟩
theorem oM(c:Int)(w:WD):Calls prog 243 #[.int .i64 c] w fun e w'=>e=.returned (.bool (kK c))/\w'=w:=by
 go_in;go_wp2
 all_goals
  go_ret;exact⟨aC (by rw[Bool.eq_iff_iff];simp[kK, *]<;>omega),rfl⟩
theorem gB(c:Int)(w:WD):Calls prog 240 #[.int .i64 c] w fun e w'=>e=.returned (.bool (ou c))/\w'=w:=by
 go_in;go_wp2
 all_goals
  go_ret;exact⟨aC (by rw[Bool.eq_iff_iff];simp[ou, *]<;>omega),rfl⟩
theorem fH(c:Int)(w:WD):Calls prog 177 #[.int .i64 c] w fun e w'=>e=.returned (.bool (dD c))/\w'=w:=by
 go_in;go_wp2
 all_goals
  go_ret;exact⟨aC (by rw[Bool.eq_iff_iff];simp[dD, *]<;>omega),rfl⟩
theorem nC(c:Int)(w:WD):Calls prog 237 #[.int .i64 c] w fun e w'=>e=.returned (.bool (lX c))/\w'=w:=by
 cases h1:kK c<;>cases h2:fG c
 all_goals
  go_in;go_wp2_with(first|(go_at_call 243;refine(oM _ _).mono ?_;rintro e w' ⟨rfl,rfl⟩)|(go_at_call 241;refine(eY _ _).mono ?_;rintro e w' ⟨rfl,rfl⟩));go_ret;exact⟨aC (by simp[lX,h1,h2]),rfl⟩
theorem BI(c:Int)(w:WD):Calls prog 291 #[.int .i64 c] w fun e w'=>e=.returned (.bool (Eb c))/\w'=w:=by
 cases h1:dD c;all_goals
  go_in;go_wp2_with(go_at_call 177;refine(fH _ _).mono ?_;rintro e w' ⟨rfl,rfl⟩);all_goals
   go_ret;exact⟨aC (by rw[Bool.eq_iff_iff];simp[Eb, *]<;>omega),rfl⟩
theorem Ag(c:Int)(w:WD)(h0: -1<=c)(h9:c<=255):Calls prog 287 #[.int .i64 c] w fun e w'=>e=.returned (.int .i64 (xk c))/\w'=w:=by
 cases h1:fG c;all_goals
  go_in;go_wp2_with(go_at_call 241;refine(eY _ _).mono ?_;rintro e w' ⟨rfl,rfl⟩);all_goals
   go_ret;exact⟨aiO (by simp[xk, *]<;>omega),rfl⟩
section
structure Turn(b:Nat)(w w':WD):Prop where
 os:w'.os=w.os
 tape:w'.tape=w.tape
 output:w'.output=w.output
 size:w.heap.size<=w'.heap.size
 block:∀k,k<w.heap.size->k≠b->w'.heap[k]?=w.heap[k]?
theorem Turn.refl(b:Nat)(w:WD):Turn b w w:=⟨rfl,rfl,rfl,Nat.le_refl _,fun _ _ _=>rfl⟩
theorem Turn.trans{b:Nat}{x y z:WD}(h:Turn b x y)(k:Turn b y z):Turn b x z:=⟨k.os.trans h.os,k.tape.trans h.tape,k.output.trans h.output,Nat.le_trans h.size k.size,fun i hi hb=>(k.block i (Nat.lt_of_lt_of_le hi h.size) hb).trans (h.block i hi hb)⟩
theorem Turn.drewN{b:Nat}{x y:WD}(h:Turn b x y)(n:Nat):Turn b x (y.drewN n):=⟨h.os,h.tape,h.output,h.size,h.block⟩
theorem Turn.alloc{b:Nat}{x y:WD}(h:Turn b x y)(o:Obj):Turn b x (y.alloc o):=h.trans ⟨rfl,rfl,rfl,by simp,fun k hk _=>Below.heap_alloc _ _ _ hk⟩
theorem Turn.setCell{b:Nat}{x y:WD}(h:Turn b x y)(o:Nat)(v:Av):Turn b x (y.setCell ⟨b,o,none⟩ v):=h.trans ⟨rfl,rfl,rfl,by simp[World.setCell],fun k _ hb=>Below.heap_setCell _ _ _ _ hb⟩
theorem Turn.below{b B:Nat}{x y:WD}(h:Turn b x y)(hB:B<=b)(hx:B<=x.heap.size):Below B x y:=⟨h.os,h.tape,h.output,h.size,fun k hk=>h.block k (by omega) (by omega)⟩
theorem Turn.of_below{b:Nat}{x y:WD}(h:Below x.heap.size x y):Turn b x y:=⟨h.os,h.tape,h.output,h.size,fun k hk _=>h.block k hk⟩
structure Sc(w:WD)(b:Nat)(s:BY)(i:Nat):Prop where
 blk:w.heap[b]?=some (.cells #[.string s,.int .i64 (i:Int)] 201 (0,0))
 glob:∃m,w.cell? ⟨0,0,none⟩=some (.int .i64 m)
 pos:0<b
 len:s.size<=600
 le:i<=s.size
section
variable {w:WD} {b:Nat} {s:BY} {i:Nat}
theorem Sc.lt(h:Sc w b s i):b<w.heap.size:=by
 by_cases h1:b<w.heap.size
 .exact h1
 .have:=h.blk;rw[Array.getElem?_eq_none (by omega)]at this;cases this
theorem Sc.c0(h:Sc w b s i):w.cell? ⟨b,0,none⟩=some (.string s):=by unfold World.cell?;rw[h.blk];rfl
theorem Sc.c1(h:Sc w b s i):w.cell? ⟨b,1,none⟩=some (.int .i64 (i:Int)):=by unfold World.cell?;rw[h.blk];rfl
theorem Sc.f1(h:Sc w b s i):w.frozen? ⟨b,1,none⟩=false:=by unfold World.frozen?;rw[h.blk];rfl
theorem Sc.drewN(h:Sc w b s i)(n:Nat):Sc (w.drewN n) b s i:=⟨h.blk,h.glob,h.pos,h.len,h.le⟩
theorem Sc.set(h:Sc w b s i)(j:Nat)(hj:j<=s.size):Sc (w.setCell ⟨b,1,none⟩ (.int .i64 (j:Int))) b s j:=by
 refine⟨?_,?_,h.pos,h.len,hj⟩
 .simp only[World.setCell,Array.getElem?_modify,h.blk];simp
 .obtain⟨m,hm⟩:=h.glob;exact⟨m,by rw[<-hm];exact World.cell?_of_block (w:=w) (Below.heap_setCell _ _ _ _ (by have:=h.pos;show(0:Nat)≠b;omega))⟩
theorem Sc.alloc(h:Sc w b s i)(o:Obj):Sc (w.alloc o) b s i:=by
 have hl:=h.lt;refine⟨?_,?_,h.pos,h.len,h.le⟩
 .rw[Below.heap_alloc _ _ _ hl];exact h.blk
 .obtain⟨m,hm⟩:=h.glob;exact⟨m,by rw[<-hm];exact World.cell?_of_block (w:=w) (Below.heap_alloc _ _ _ (by show 0<w.heap.size;have:=h.pos;omega))⟩
end
theorem gQ(s:BY)(i:Nat)(h:i<s.size)(w:WD):(Instr.index 9 (.string s) (.int .i64 (i:Int))).run prog w=.ok (.int .u8 (pk s i)) w:=by rw[run_index_string w 9 s .i64 i Tryz.underlying9,dif_pos ⟨by omega,by omega⟩,zK h];simp
theorem afP(s:BY)(i:Nat):IntKind.i64.wrap (pk s i)=pk s i:=by have:=abT s i;have:=Yj s i;rw[IntKind.wrap_i64];omega
theorem ak(s:BY)(b i:Nat)(a:Int)(k:Nat)(w:WD)(h:Sc w b s i)(ha:0<=a/\a<=10/\(i:Int)+a=k):
  Calls prog 113 #[.pointer (some ⟨b,0,none⟩),.int .i64 a] w fun e w'=>e=.returned (.int .i64 (pk s k))/\∃n,w'=w.drewN n:=by
 have h0:=h.c0;have h1:=h.c1;have hs:=h.len;have hi:=h.le;clear h;obtain⟨n,rfl⟩:=Int.eq_ofNat_of_zero_le ha.1;obtain rfl:k=i+n:=by omega
 have ha':n<=10:=by omega
 clear ha;by_cases hlt:i+n<s.size
 .have hix:=gQ s (i+n) hlt;have hw1:IntKind.i64.wrap ((i:Int)+(n:Int))=((i+n:Nat):Int):=by rw[IntKind.wrap_i64];omega
  have hw2:=afP s (i+n);simp only[Int.natCast_add]at hix hw1;go_in;go_wp2
  go_quiet (fail)
  go_wp2
  go_quiet (fail)
  go_wp2
  go_ret;exact⟨rfl,_,World.drewN_drewN _ _ _⟩
 .rw[oK (by omega)];go_in;go_wp2
  go_quiet (fail)
  go_wp2
  go_ret;exact⟨rfl,_,rfl⟩
theorem fA(s:BY)(b i:Nat)(a:Int)(k:Nat)(w:WD)(h:Sc w b s i)(ha:0<=a/\a<=9/\(i:Int)+a=k):
  Calls prog 238 #[.pointer (some ⟨b,0,none⟩),.int .i64 a] w fun e w'=>e=.returned (.bool (kY s k))/\∃n,w'=w.drewN n:=by
 have g0:=ha.1;have g1:=ha.2.1;have HA:=hid ha.2.2;clear ha;cases h92:(pk s k==92)
 .have HV:Hid (kY s k=false):=by show kY s k=false;simp[kY,h92]
  go_in;go_wp2_with fail;refine(ak s b i _ k _ h ⟨by omega,by omega,by have:=HA.out;omega⟩).mono ?_;rintro e w1 ⟨rfl,n1,rfl⟩;go_wp2_with fail;go_ret;exact⟨aC HV.out.symm,_,rfl⟩
 .have HV:Hid (kY s k=(pk s (k+1) != 10)):=by show kY s k=_;simp[kY,h92]
  go_in;go_wp2_with fail;refine(ak s b i _ k _ h ⟨by omega,by omega,by have:=HA.out;omega⟩).mono ?_;rintro e w1 ⟨rfl,n1,rfl⟩;go_wp2_with fail;refine(ak s b i _ (k+1) _ (h.drewN _) ⟨by omega,by omega,by have:=HA.out;omega⟩).mono ?_;rintro e w1 ⟨rfl,n2,rfl⟩;go_wp2_with fail;go_ret;exact⟨aC HV.out.symm,_,rfl⟩
theorem kZ(s:BY)(b i:Nat)(a:Int)(k:Nat)(w:WD)(h:Sc w b s i)(ha:0<=a/\a<=9/\(i:Int)+a=k):
  Calls prog 179 #[.pointer (some ⟨b,0,none⟩),.int .i64 a] w fun e w'=>e=.returned (.bool (jT s k))/\∃n,w'=w.drewN n:=by
 have g0:=ha.1;have g1:=ha.2.1;have HA:=hid ha.2.2;clear ha;cases hn:lX (pk s k)
 .have HV:Hid (jT s k=kY s k):=by show jT s k=_;simp[jT,hn]
  go_in;go_wp2_with fail;refine(ak s b i _ k _ h ⟨by omega,by omega,by have:=HA.out;omega⟩).mono ?_;rintro e w1 ⟨rfl,n1,rfl⟩;go_wp2_with fail;refine(nC _ _).mono ?_;rintro e w1 ⟨rfl,rfl⟩;go_wp2_with fail;refine(fA s b i _ k _ (h.drewN _) ⟨by omega,by omega,by have:=HA.out;omega⟩).mono ?_;rintro e w1 ⟨rfl,n2,rfl⟩;go_wp2_with fail;go_ret;exact⟨aC (by rw[HV.out]),_,rfl⟩
 .have HV:Hid (jT s k=true):=by show jT s k=_;simp[jT,hn]
  go_in;go_wp2_with fail;refine(ak s b i _ k _ h ⟨by omega,by omega,by have:=HA.out;omega⟩).mono ?_;rintro e w1 ⟨rfl,n1,rfl⟩;go_wp2_with fail;refine(nC _ _).mono ?_;rintro e w1 ⟨rfl,rfl⟩;go_wp2_with fail;go_ret;exact⟨aC HV.out.symm,_,rfl⟩
theorem fP(s:BY)(b i:Nat)(a:Int)(k:Nat)(w:WD)(h:Sc w b s i)(ha:0<=a/\a<=8/\(i:Int)+a=k):
  Calls prog 183 #[.pointer (some ⟨b,0,none⟩),.int .i64 a] w fun e w'=>e=.returned (.bool (iG s k))/\∃n,w'=w.drewN n:=by
 have g0:=ha.1;have g1:=ha.2.1;have HA:=hid ha.2.2;clear ha;cases h45:(pk s k==45)
 .have n45:¬pk s k=45:=by simpa using h45
  cases hl:kK (pk s k)
  .have HV:Hid (iG s k=kY s k):=by show iG s k=_;simp[iG,n45,hl]
   clear n45;go_in;go_wp2_with fail;refine(ak s b i _ k _ h ⟨by omega,by omega,by have:=HA.out;omega⟩).mono ?_;rintro e w1 ⟨rfl,n1,rfl⟩;go_wp2_with fail;refine(ak s b i _ k _ (h.drewN _) ⟨by omega,by omega,by have:=HA.out;omega⟩).mono ?_;rintro e w1 ⟨rfl,n2,rfl⟩;go_wp2_with fail;refine(oM _ _).mono ?_;rintro e w1 ⟨rfl,rfl⟩;go_wp2_with fail;refine(fA s b i _ k _ (h.drewN _) ⟨by omega,by omega,by have:=HA.out;omega⟩).mono ?_;rintro e w1 ⟨rfl,n3,rfl⟩;go_wp2_with fail;go_ret;exact⟨aC (by rw[HV.out]),_,rfl⟩
  .have HV:Hid (iG s k=true):=by show iG s k=_;simp[iG,n45,hl]
   clear n45;go_in;go_wp2_with fail;refine(ak s b i _ k _ h ⟨by omega,by omega,by have:=HA.out;omega⟩).mono ?_;rintro e w1 ⟨rfl,n1,rfl⟩;go_wp2_with fail;refine(ak s b i _ k _ (h.drewN _) ⟨by omega,by omega,by have:=HA.out;omega⟩).mono ?_;rintro e w1 ⟨rfl,n2,rfl⟩;go_wp2_with fail;refine(oM _ _).mono ?_;rintro e w1 ⟨rfl,rfl⟩;go_wp2_with fail;go_ret;exact⟨aC HV.out.symm,_,rfl⟩
 .have n45:pk s k=45:=by simpa using h45
  cases hl:kK (pk s (k+1))
  .cases hd:(pk s (k+1)==45)
   .have HV:Hid (iG s k=kY s (k+1)):=by show iG s k=_;simp[iG,n45,hl,hd]
    clear n45;go_in;go_wp2_with fail;refine(ak s b i _ k _ h ⟨by omega,by omega,by have:=HA.out;omega⟩).mono ?_;rintro e w1 ⟨rfl,n1,rfl⟩;go_wp2_with fail;refine(ak s b i _ (k+1) _ (h.drewN _) ⟨by omega,by omega,by have:=HA.out;omega⟩).mono ?_;rintro e w1 ⟨rfl,n2,rfl⟩;go_wp2_with fail;refine(oM _ _).mono ?_;rintro e w1 ⟨rfl,rfl⟩;go_wp2_with fail;refine(fA s b i _ (k+1) _ (h.drewN _) ⟨by omega,by omega,by have:=HA.out;omega⟩).mono ?_;rintro e w1 ⟨rfl,n3,rfl⟩;go_wp2_with fail;go_ret;exact⟨aC (by rw[HV.out]),_,rfl⟩
   .have HV:Hid (iG s k=true):=by show iG s k=_;simp[iG,n45,hl,hd]
    clear n45;go_in;go_wp2_with fail;refine(ak s b i _ k _ h ⟨by omega,by omega,by have:=HA.out;omega⟩).mono ?_;rintro e w1 ⟨rfl,n1,rfl⟩;go_wp2_with fail;refine(ak s b i _ (k+1) _ (h.drewN _) ⟨by omega,by omega,by have:=HA.out;omega⟩).mono ?_;rintro e w1 ⟨rfl,n2,rfl⟩;go_wp2_with fail;refine(oM _ _).mono ?_;rintro e w1 ⟨rfl,rfl⟩;go_wp2_with fail;go_ret;exact⟨aC HV.out.symm,_,rfl⟩
  .have HV:Hid (iG s k=true):=by show iG s k=_;simp[iG,n45,hl]
   clear n45;go_in;go_wp2_with fail;refine(ak s b i _ k _ h ⟨by omega,by omega,by have:=HA.out;omega⟩).mono ?_;rintro e w1 ⟨rfl,n1,rfl⟩;go_wp2_with fail;refine(ak s b i _ (k+1) _ (h.drewN _) ⟨by omega,by omega,by have:=HA.out;omega⟩).mono ?_;rintro e w1 ⟨rfl,n2,rfl⟩;go_wp2_with fail;refine(oM _ _).mono ?_;rintro e w1 ⟨rfl,rfl⟩;go_wp2_with fail;go_ret;exact⟨aC HV.out.symm,_,rfl⟩
theorem dn(s:BY)(b i:Nat)(w:WD)(h:Sc w b s i):
  Calls prog 181 #[.pointer (some ⟨b,0,none⟩)] w fun e w'=>e=.returned (.bool (iO s i))/\∃n,w'=w.drewN n:=by
 cases hsg:ou (pk s i)
 .have hk:mX s i=i:=by simp[mX,hsg]
  cases h46:(pk s i==46);focus
   have HV:Hid (iO s i=fG (pk s i)):=by show iO s i=_;simp[iO,hk,h46]
   clear hk;go_in;go_wp2_with fail;refine(ak s b i _ i _ h ⟨by omega,by omega,by omega⟩).mono ?_;rintro e w1 ⟨rfl,n1,rfl⟩;go_wp2_with fail;refine(gB _ _).mono ?_;rintro e w1 ⟨rfl,rfl⟩;go_wp2_with fail;refine(ak s b i _ i _ (h.drewN _) ⟨by omega,by omega,by omega⟩).mono ?_;rintro e w1 ⟨rfl,n2,rfl⟩;go_wp2_with fail;refine(ak s b i _ i _ (h.drewN _) ⟨by omega,by omega,by omega⟩).mono ?_
  rotate_left;focus
   have HV:Hid (iO s i=fG (pk s (i+1))):=by
    have e:pk s i=46:=by simpa using h46
    show iO s i=_;rw[iO,hk,e];simp[fG]
   clear hk;go_in;go_wp2_with fail;refine(ak s b i _ i _ h ⟨by omega,by omega,by omega⟩).mono ?_;rintro e w1 ⟨rfl,n1,rfl⟩;go_wp2_with fail;refine(gB _ _).mono ?_;rintro e w1 ⟨rfl,rfl⟩;go_wp2_with fail;refine(ak s b i _ i _ (h.drewN _) ⟨by omega,by omega,by omega⟩).mono ?_;rintro e w1 ⟨rfl,n2,rfl⟩;go_wp2_with fail;refine(ak s b i _ (i+1) _ (h.drewN _) ⟨by omega,by omega,by omega⟩).mono ?_
  rotate_left;all_goals
   rintro e w1 ⟨rfl,n3,rfl⟩;go_wp2_with fail;refine(eY _ _).mono ?_;rintro e w1 ⟨rfl,rfl⟩;go_wp2_with fail;go_ret;exact⟨aC HV.out.symm,_,rfl⟩
 .have hk:mX s i=i+1:=by simp[mX,hsg]
  cases h46:(pk s (i+1)==46);focus
   have HV:Hid (iO s i=fG (pk s (i+1))):=by show iO s i=_;simp[iO,hk,h46]
   clear hk;go_in;go_wp2_with fail;refine(ak s b i _ i _ h ⟨by omega,by omega,by omega⟩).mono ?_;rintro e w1 ⟨rfl,n1,rfl⟩;go_wp2_with fail;refine(gB _ _).mono ?_;rintro e w1 ⟨rfl,rfl⟩;go_wp2_with fail;refine(ak s b i _ (i+1) _ (h.drewN _) ⟨by omega,by omega,by omega⟩).mono ?_;rintro e w1 ⟨rfl,n2,rfl⟩;go_wp2_with fail;refine(ak s b i _ (i+1) _ (h.drewN _) ⟨by omega,by omega,by omega⟩).mono ?_
  rotate_left;focus
   have HV:Hid (iO s i=fG (pk s (i+2))):=by
    have e:pk s (i+1)=46:=by simpa using h46
    show iO s i=_;rw[iO,hk,e];simp[fG]
   clear hk;go_in;go_wp2_with fail;refine(ak s b i _ i _ h ⟨by omega,by omega,by omega⟩).mono ?_;rintro e w1 ⟨rfl,n1,rfl⟩;go_wp2_with fail;refine(gB _ _).mono ?_;rintro e w1 ⟨rfl,rfl⟩;go_wp2_with fail;refine(ak s b i _ (i+1) _ (h.drewN _) ⟨by omega,by omega,by omega⟩).mono ?_;rintro e w1 ⟨rfl,n2,rfl⟩;go_wp2_with fail;refine(ak s b i _ (i+2) _ (h.drewN _) ⟨by omega,by omega,by omega⟩).mono ?_
  rotate_left;all_goals
   rintro e w1 ⟨rfl,n3,rfl⟩;go_wp2_with fail;refine(eY _ _).mono ?_;rintro e w1 ⟨rfl,rfl⟩;go_wp2_with fail;go_ret;exact⟨aC HV.out.symm,_,rfl⟩
theorem FT{P:Program}{ops:Array Oper}{Q:Exit->Act->WD->Prop}{md:Region.Mode}(i:Nat){oi:Oper}{v:Av}{fuel:Nat}{listed:Array Bool}{a a':Act}{w:WD}
  (h:wpAny P md ops Q fuel (listed.setIfInBounds i true) a' w) (hi:ops[i]?=some oi:=by rfl) (hs:Region.noSelect ops=true:=by kernel_rfl) (hf:Region.free md ops listed i=true:=by kernel_rfl) (hr:(Region.ready md ops listed).contains i=true:=by kernel_rfl)
  (hw:Region.wanted oi (yielded ops a.tmps)=true:=by kernel_rfl) (hy:∀w,(execOp a.eval oi).run P w=.ok (.value v) w:=by intro w;go_simp;all_goals with_reducible rfl)
  (hQ:∀c a w,Q (.panic c) (a.put oi.dst v) w->Q (.panic c) a w:=by exact fun _ _ _ h=>h)
  (ha:a.put oi.dst v=a':=by(try simp only[List.getElem_toArray]);(try simp only[List.getElem_cons_succ]);(try simp only[List.getElem_cons_zero]);(try simp only[Act.put]);(try simp only[List.setIfInBounds_toArray]);(try simp only[List.set_cons_succ]);(try simp only[List.set_cons_zero]);all_goals with_reducible rfl):wpAny P md ops Q (fuel+1) listed a w:=by
 subst ha;exact wpAny_take hi hs hf hr hQ (Or.inl ⟨hw,hy⟩) h
theorem dH{P:Program}{ops:Array Oper}{Q:Exit->Act->WD->Prop}{md:Region.Mode}{S:WD->Prop}(i:Nat){oi:Oper}{v:Av}{fuel:Nat}{listed:Array Bool}{a a':Act}{w:WD}
  (hi:ops[i]?=some oi) (hS:S w) (hy:∀w,S w->(execOp a.eval oi).run P w=.ok (.value v) w) (h:wpAnyH P md ops Q S fuel (listed.setIfInBounds i true) a' w) (hs:Region.noSelect ops=true:=by kernel_rfl) (hf:Region.free md ops listed i=true:=by kernel_rfl) (hr:(Region.ready md ops listed).contains i=true:=by kernel_rfl)
  (hw:Region.wanted oi (yielded ops a.tmps)=true:=by kernel_rfl)
  (hQ:∀c a w,Q (.panic c) (a.put oi.dst v) w->Q (.panic c) a w:=by exact fun _ _ _ h=>h)
  (ha:a.put oi.dst v=a':=by(try simp only[List.getElem_toArray]);(try simp only[List.getElem_cons_succ]);(try simp only[List.getElem_cons_zero]);(try simp only[Act.put]);(try simp only[List.setIfInBounds_toArray]);(try simp only[List.set_cons_succ]);(try simp only[List.set_cons_zero]);all_goals with_reducible rfl):wpAnyH P md ops Q S (fuel+1) listed a w:=by
 subst ha;exact wpAnyH_take hi hs hf hr hQ (Or.inl ⟨hw,hy⟩) hS h
theorem Qp{P:Program}{ops:Array Oper}{Q:Exit->Act->WD->Prop}{md:Region.Mode}{S:WD->Prop}(i:Nat){oi:Oper}{v:Av}{fuel:Nat}{listed:Array Bool}{a a':Act}{w:WD}
  (hi:ops[i]?=some oi) (hS:S w) (hy:∀w,S w->(execOp a.eval oi).run P w=.ok (.value v) w) (h:wpAnyH P md ops Q S fuel (listed.setIfInBounds i true) a' w) (hs:Region.noSelect ops=true:=by kernel_rfl) (hf:Region.free md ops listed i=true:=by kernel_rfl) (hr:(Region.ready md ops listed).contains i=true:=by kernel_rfl)
  (hw:Region.wanted oi (yielded ops a.tmps)=true:=by kernel_rfl)
  (hQ:∀c a w,Q (.panic c) (a.put oi.dst v) w->Q (.panic c) a w:=by exact fun _ _ _ h=>h)
  (ha:a.put oi.dst v=a':=by(try simp only[Act.put,List.setIfInBounds_toArray,List.set_cons_zero,List.set_cons_succ]);all_goals with_reducible rfl):wpAnyH P md ops Q S (fuel+1) listed a w:=by
 subst ha;exact wpAnyH_take hi hs hf hr hQ (Or.inl ⟨hw,hy⟩) hS h
theorem brA{P:Program}{ops:Array Oper}{Q:Exit->Act->WD->Prop}{md:Region.Mode}(i:Nat){o:Oper}{fuel:Nat}{listed:Array Bool}{a:Act}{w:WD}
  (h:∀K':Act->WD->Prop,(∀a w,wpAny P md ops Q fuel (listed.setIfInBounds i true) a w->K' a w)->if Region.wanted o (yielded ops a.tmps)=true then Oper.wp P o a w K' Q else K' (a.put o.dst undef) w)
  (ho:ops[i]?=some o:=by rfl) (hr:Region.ready md ops listed=[i]:=by kernel_rfl):wpAny P md ops Q (fuel+1) listed a w:=
 wpAny_ready hr Ab (AllReady.cons ho h AllReady.nil)
theorem iW{P:Program}{ops:Array Oper}{Q:Exit->Act->WD->Prop}{md:Region.Mode}{S:WD->Prop}(i:Nat){o:Oper}{fuel:Nat}{listed:Array Bool}{a:Act}{w:WD}
  (h:∀K':Act->WD->Prop,Shut (∀a w,S w->(S w->wpAnyH P md ops Q S fuel (listed.setIfInBounds i true) a w)->K' a w)->if Region.wanted o (yielded ops a.tmps)=true then Oper.wp P o a w K' Q else K' (a.put o.dst undef) w)
  (ho:ops[i]?=some o:=by rfl) (hr:Region.ready md ops listed=[i]:=by kernel_rfl):wpAnyH P md ops Q S (fuel+1) listed a w:=
 wpAnyH_ready hr Ab (AllReadyH.cons ho h AllReadyH.nil)
theorem jA{P:Program}{f:FuncId}{args:Array Av}{w w2:WD}{v:Av}{Q:Ending->WD->Prop}(h:Calls P f args w fun e w'=>e=.returned v/\w'=w2)(k:Q (.returned v) w2):Calls P f args w Q:=h.mono fun _ _ ⟨he,hw⟩=>by rw[he,hw];exact k
theorem cZ{α:Type}{P:Program}{f:FuncId}{args:Array Av}{w:WD}{w2:α->WD}{v:Av}{Q:Ending->WD->Prop}(h:Calls P f args w fun e w'=>e=.returned v/\∃n,w'=w2 n)(k:∀n,Q (.returned v) (w2 n)):Calls P f args w Q:=h.mono fun _ _ ⟨he,n,hw⟩=>by rw[he,hw];exact k n
theorem pmb{P:Program}{f:FuncId}{args:Array Av}{w:WD}{R:WD->Prop}{v:Av}{Q:Ending->WD->Prop}(h:Calls P f args w fun e w'=>e=.returned v/\R w')(k:∀w',R w'->Q (.returned v) w'):Calls P f args w Q:=h.mono fun _ w' ⟨he,hw⟩=>by rw[he];exact k w' hw
theorem gs{p:Prop}(h:p:=by go_simp;all_goals with_reducible rfl):p:=h
theorem oa{p:Prop}(h:p:=by first|omega|(simp only[ByteArray.size_append];omega)):p:=h
theorem oo{p:Prop}(h:p:=by omega):p:=h
theorem nl{n:Nat}:n<=n:=Nat.le_refl n
theorem _root_.Go.RowKit.Hid.o{p:Prop}(h:Hid p):p:=h
theorem _root_.Go.Aside.o{p:Prop}(h:Aside p):p:=h
theorem _root_.Go.Shut.o{p:Prop}(h:Shut p):p:=h
end
end Go.Proofs.YtlliliddljkbfaaGreat
namespace Go.Proofs.YtlliliddljkbfaaGreat.Sp
section
inductive Nd where
 |mk (t:Tok) (kids:List Nd)
def Nd.t:Nd->Tok
 |.mk t _=>t
def Nd.kids:Nd->List Nd
 |.mk _ k=>k
@[simp] theorem Nd.Qq (t:Tok) (k:List Nd):(Nd.mk t k).t=t:=rfl
@[simp] theorem Nd.BK (t:Tok) (k:List Nd):(Nd.mk t k).kids=k:=rfl
def b1(n:UInt8):BY:=⟨#[n]⟩
def aA:BY:=⟨#[]⟩
def closing(t:Tok):BY:=if t.kind=11 then b1 41 else if t.kind=15 then(if t.word=b1 40 then b1 41 else if t.word=b1 91 then b1 93 else if t.word=b1 123 then b1 125 else aA) else aA
def au(t:Tok)(w:BY):Bool:=decide (t.kind=15)&&decide (t.word=w)
def dN(n:Nd)(w:BY):Bool:=au n.t w
structure dI(t:Tok):Prop where
 word:t.word.size<=4000000
 unit:t.unit.size<=1000
 num:t.kind=5->0<t.word.size
 dim:t.kind=7->0<t.unit.size
 sign:t.kind=15->t.word.size=1
 named:t.kind=4\/t.kind=10\/t.kind=11\/t.kind=14->0<t.word.size
def mY:Nat->BY->List Tok->List Nd×List Tok
 |0,_,ts=>([],ts)
 |_+1,_,[]=>([],[])
 |f+1,e,t::r=>
  if e≠aA/\au t e=true then([],r)
  else
   let a:=if closing t=aA then([],r) else mY f (closing t) r
   let b:=mY f e a.2
   (.mk t a.1::b.1,b.2)
def kids(e:BY)(ts:List Tok):List Nd×List Tok:=mY ts.length e ts
def inside(t:Tok)(r:List Tok):List Nd×List Tok:=if closing t=aA then([],r) else kids (closing t) r
def nodes(ts:List Tok):List Nd:=(kids aA ts).1
mutual
def eU:Nd->Nat
 |.mk t k=>if closing t=aA then 0 else depth k+1
def depth:List Nd->Nat
 |[]=>0
 |n::r=>max (eU n) (depth r)
end
def iH(n:Nd):Bool:=decide (n.t.kind=1)
def aH:List Nd->List Nd
 |[]=>[]
 |n::r=>if iH n=true then aH r else n::r
def lJ(l:List Nd):List Nd:=(aH l.reverse).reverse
def bare(l:List Nd):List Nd:=lJ (aH l)
def iZ(out:List (List Nd))(cur:List Nd):List Nd->List (List Nd)
 |[]=>out++[cur]
 |n::r=>if dN n (b1 44)=true then iZ (out++[cur]) [] r else iZ out (cur++[n]) r
def parted(l:List Nd):List (List Nd):=iZ [] [] l
inductive Simple where
 |mk (kind:Nat) (name how value:BY) (list:List (List (Nat×List Simple))) (place:Nat)
abbrev Step:=Nat×List Simple
abbrev bY:=List (List Step)
def Simple.of(kind:Nat)(name:BY):Simple:=.mk kind name aA aA [] 0
def gU(l:List Nd):Option (Nat×List Nd):=
 match aH l with
 |[]=>if l=[] then none else some (32,[])
 |n::r=>
  if dN n (b1 62)=true then some (62,aH r)
  else if dN n (b1 43)=true then some (43,aH r)
  else if dN n (b1 126)=true then some (126,aH r)
  else if (n::r).length<l.length then some (32,n::r) else none
def BL:BY:=⟨#[114,111,111,116]⟩
def uY:BY:=⟨#[102,105,114,115,116,45,99,104,105,108,100]⟩
def BM:BY:=⟨#[108,97,115,116,45,99,104,105,108,100]⟩
def Eh:BY:=⟨#[101,109,112,116,121]⟩
def nD:BY:=⟨#[110,111,116]⟩
def DY:BY:=⟨#[105,115]⟩
def nG:BY:=⟨#[110,116,104,45,99,104,105,108,100]⟩
def sZ:BY:=⟨#[111,100,100]⟩
def l7:BY:=⟨#[101,118,101,110]⟩
def oN:Nat->List UInt8->Option Nat
 |v,[]=>if v<=999 then some v else none
 |v,c::r=>if 48<=c.toNat/\c.toNat<=57/\v<=999 then oN (10*v+c.toNat-48) r else none
def placeOf(t:Tok):Option Nat:=
 if t.kind=14 then(if small t.word=l7 then some 1 else if small t.word=sZ then some 0 else none)
 else if t.kind=5/\fG (pk t.word 0)=true then(oN 0 t.word.data.toList).map (· + 2)
 else none
def gG(l:List Nd):Option Simple:=
 match l with
 |[]=>none
 |n::r=>
  if n.t.kind≠14 then none
  else
   let l1:=bare r
   match l1 with
   |[]=>some (Simple.of 91 n.t.word)
   |m::r1=>
    if m.t.kind≠15 then none
    else
     let h:=m.t.word=b1 126\/m.t.word=b1 94\/m.t.word=b1 36\/m.t.word=b1 42
     let l2:=if h then r1 else m::r1
     match l2 with
     |[]=>none
     |q::r2=>
      match bare r2 with
      |[v]=>if dN q (b1 61)=true/\(v.t.kind=14\/v.t.kind=2) then some (.mk 91 n.t.word ((if h then m.t.word else aA)++b1 61) v.t.word [] 0) else none
      |_=>none
section
variable (rec:List Nd->Option bY)
def bM(n:Nd):Option Simple:=
 let w:=small n.t.word
 if n.t.kind=14 then(if w=BL\/w=uY\/w=BM\/w=Eh then some (Simple.of 58 w) else none)
 else if n.t.kind≠11 then none
 else if w=nD\/w=DY then(rec n.kids).map (fun l=>.mk 58 w aA aA l 0)
 else if w=nG then
  (match bare n.kids with
   |[v]=>(placeOf v.t).map (fun p=>.mk 58 w aA aA [] p)
   |_=>none)
 else none
def bZ:List Simple->List Nd->Option (List Simple×List Nd)
 |acc,[]=>some (acc,[])
 |acc,[n]=>
  if n.t.kind=4 then some (acc++[Simple.of 35 n.t.word],[])
  else if dN n (b1 46)=true then none
  else if dN n (b1 91)=true then(match gG (bare n.kids)with|none=>none|some s=>some (acc++[s],[]))
  else if dN n (b1 58)=true then none
  else some (acc,[n])
 |acc,n::m::r=>
  if n.t.kind=4 then bZ (acc++[Simple.of 35 n.t.word]) (m::r)
  else if dN n (b1 46)=true then(if m.t.kind=14 then bZ (acc++[Simple.of 46 m.t.word]) r else none)
  else if dN n (b1 91)=true then(match gG (bare n.kids)with|none=>none|some s=>bZ (acc++[s]) (m::r))
  else if dN n (b1 58)=true then(match bM rec m with|none=>none|some s=>bZ (acc++[s]) r)
  else some (acc,n::m::r)
def kP(l:List Nd):List Simple×List Nd:=
 match l with
 |[]=>([],[])
 |n::r=>if n.t.kind=14 then([Simple.of 116 (small n.t.word)],r) else if dN n (b1 42)=true then([Simple.of 116 aA],r) else([],n::r)
def aZ(l:List Nd):Option (List Simple×List Nd):=bZ rec (kP l).1 (kP l).2
def bD:Nat->Nat->List Nd->Option (List Step)
 |0,_,_=>none
 |f+1,b,l=>
  match aZ rec l with
  |none=>none
  |some (all,r)=>
   if all=[] then none
   else if r=[] then some [(b,all)]
   else match gU r with
    |none=>none
    |some (c,r')=>(bD f c r').map (fun x=>(b,all)::x)
def je(l:List Nd):Option (List Step):=bD rec (l.length+1) 0 l
def fZ:List (List Nd)->Option bY
 |[]=>some []
 |p::r=>match je rec (bare p)with|none=>none|some s=>(fZ r).map (fun x=>s::x)
def oz(l:List Nd):Option bY:=if 8<(parted l).length then none else fZ rec (parted l)
end
def lM:Nat->List Nd->Option bY
 |0,l=>oz (fun _=>none) l
 |f+1,l=>oz (lM f) l
def Ot(l:List Nd):Option bY:=lM (depth l) l
structure Elem where
 parent:Int
 tag:BY
 id:BY
 classes:List BY
 attrs:List (BY×BY)
abbrev aI:=List Elem
def oC(c:UInt8):Bool:=(decide (97<=c.toNat)&&decide (c.toNat<=122))||(decide (48<=c.toNat)&&decide (c.toNat<=57))||c==45
def nameP(s:BY):Bool:=s.data.toList.all oC&&decide (s.size<=12)
def dK(s:BY):Bool:=s.data.toList.all (fun c=>oC c||c==32)&&decide (s.size<=24)
def xC(i:Nat)(x:Elem):Bool:=
 nameP x.tag&&!decide (x.tag=aA)&&nameP x.id&&decide (x.classes.length<=4)&&decide (x.attrs.length<=4) &&
 (if i=0 then x.parent == -1 else decide (0<=x.parent)&&decide (x.parent<i)) &&
 x.classes.all (fun c=>nameP c&&!decide (c=aA))&&x.attrs.all (fun a=>nameP a.1&&dK a.2&&!decide (a.1=aA))
def gI:Nat->aI->Bool
 |_,[]=>true
 |i,x::r=>xC i x&&gI (i+1) r
def iL(p:aI):Bool:=decide (1<=p.length)&&decide (p.length<=30)&&gI 0 p
def parentOf(p:aI)(e:Nat):Int:=(p[e]?.map Elem.parent).getD (-1)
def gJ(p:aI)(q:Int):Nat->List Nat
 |0=>[]
 |k+1=>if parentOf p k=q then gJ p q k++[k] else gJ p q k
def ahead(p:aI)(e:Nat):List Nat:=gJ p (parentOf p e) e
def before(p:aI)(e:Nat):Int:=match (ahead p e).getLast? with|none=>-1|some k=>(k:Int)
def qo(p:aI)(e:Nat):Nat:=(ahead p e).length+1
def lastB(p:aI)(e:Nat):Bool:=(List.range p.length).all (fun k=>!(decide (e<k)&&parentOf p k==parentOf p e))
def aiP(p:aI)(e:Nat):Bool:=(List.range p.length).all (fun k=>parentOf p k != (e:Int))
def Vt:BY->List UInt8->List BY
 |w,[]=>[w]
 |w,c::r=>if aO c.toNat=true then w::Vt aA r else Vt (w++b1 c) r
def aiQ(s v:BY):Bool:=!decide (v=aA)&&(Vt aA s.data.toList).any (fun c=>decide (c=v))
def ab2(s v:BY)(i:Nat):Bool:=decide (i+v.size<=s.size)&&decide (s.extract i (i+v.size)=v)
def akF(s v:BY):Bool:=(List.range (s.size+1)).any (ab2 s v)
def fits(how x v:BY):Bool:=
 if how=aA then true
 else if how=b1 61 then decide (x=v)
 else if how=⟨#[126,61]⟩ then aiQ x v
 else !decide (v=aA)&&(if how=⟨#[94,61]⟩ then ab2 x v 0 else if how=⟨#[36,61]⟩ then decide (v.size<=x.size)&&ab2 x v (x.size-v.size) else akF x v)
def aia(name how v:BY):List (BY×BY)->Bool
 |[]=>false
 |a::r=>if a.1=name then fits how a.2 v else aia name how v r
def afQ(kind:Nat)(name how value:BY)(place:Nat)(p:aI)(e:Nat)(inn:Bool):Bool:=
 match p[e]? with
 |none=>false
 |some x=>
  if kind=116 then decide (name=aA)||decide (name=small x.tag)
  else if kind=35 then !decide (x.id=aA)&&decide (x.id=name)
  else if kind=46 then x.classes.any (fun c=>decide (c=name))
  else if kind=91 then aia name how value x.attrs
  else if name=BL then e==0
  else if name=uY then qo p e==1
  else if name=BM then lastB p e
  else if name=Eh then aiP p e
  else if name=nG then(if 2<=place then qo p e==place-2 else qo p e%2==1-place)
  else if name=nD then !inn
  else inn
def akG(p:aI)(by_:Nat)(was:Nat->Bool):Nat->Nat->Bool
 |0,_=>false
 |f+1,e=>
  let e':=if by_=32\/by_=62 then parentOf p e else before p e
  if e'<0 then false
  else if was e'.toNat=true then true
  else if by_=62\/by_=43 then false
  else akG p by_ was f e'.toNat
def led(p:aI)(by_:Nat)(was:Nat->Bool)(e:Nat):Bool:=akG p by_ was (e+1) e
mutual
def onS(p:aI):Simple->Nat->Bool
 |.mk kind name how value list place,e=>afQ kind name how value place p e (onL p list e)
def Me(p:aI):List Simple->Nat->Bool
 |[],_=>true
 |s::r,e=>onS p s e&&Me p r e
def onC(p:aI):List (Nat×List Simple)->Option (Nat->Bool)->Nat->Bool
 |[],was,e=>(was.getD (fun _=>false)) e
 |(b,all)::r,was,e=>onC p r (some (fun k=>(match was with|none=>true|some f=>led p b f k)&&Me p all k)) e
def onL(p:aI):List (List (Nat×List Simple))->Nat->Bool
 |[],_=>false
 |c::r,e=>onC p c none e||onL p r e
end
end
end Go.Proofs.YtlliliddljkbfaaGreat.Sp
namespace Go.Proofs.YtlliliddljkbfaaGreat
open Go.Proofs.Tryz (prog)
open Go.RowKit Sp
section
theorem fC(a:BY):a.toList=a.data.toList:=by simp[ByteArray.toList_eq]
theorem bytes_beq(a b:BY):(a.toList==b.toList)=decide (a=b):=by
 rw[Bool.eq_iff_iff,beq_iff_eq,decide_eq_true_iff,fC,fC];constructor
 .intro h;exact ByteArray.ext (Array.toList_inj.1 h)
 .rintro rfl;rfl
theorem ay(a:BY)(l:List UInt8):(a.toList==l)=decide (a=⟨l.toArray⟩):=by rw[<-bytes_beq a ⟨l.toArray⟩,fC ⟨l.toArray⟩]
def fB(t:Tok)(kv:Av):Av:=.agg #[.int .i64 t.kind,.string t.word,.string t.unit,kv]
mutual
def BO(S:Nat->Prop)(w:WD):Nd->Nat->Nat->Prop
 |.mk t k,g,o=>(S g/\dI t)/\w.cell? ⟨g,o,none⟩=some (.int .i64 t.kind)/\w.cell? ⟨g,o+1,none⟩=some (.string t.word)/\w.cell? ⟨g,o+2,none⟩=some (.string t.unit) /\
   ∃(a:Option Addr) (cap:Nat),w.cell? ⟨g,o+3,none⟩=some (.slice a k.length cap)/\(k.length<=cap/\k.length<=600)/\(k≠[]->∃g' o',a=some ⟨g',o',none⟩/\gq S w k g' o')
def gq(S:Nat->Prop)(w:WD):List Nd->Nat->Nat->Prop
 |[],_,_=>True
 |n::r,g,o=>BO S w n g o/\gq S w r g (o+4)
end
def Sl(S:Nat->Prop)(w:WD)(v:Av)(ns:List Nd):Prop:=∃(a:Option Addr) (cap:Nat),v=.slice a ns.length cap/\(ns.length<=cap/\ns.length<=600)/\(ns≠[]->∃g o,a=some ⟨g,o,none⟩/\gq S w ns g o)
section
variable {S S':Nat->Prop} {w w':WD}
theorem MB(t:Tok)(k:List Nd)(g o:Nat):BO S w (.mk t k) g o↔(S g/\dI t)/\w.cell? ⟨g,o,none⟩=some (.int .i64 t.kind)/\w.cell? ⟨g,o+1,none⟩=some (.string t.word)/\w.cell? ⟨g,o+2,none⟩=some (.string t.unit) /\
  ∃kv,w.cell? ⟨g,o+3,none⟩=some kv/\Sl S w kv k:=by
 unfold BO Sl;constructor
 .rintro ⟨h0,h1,h2,h3,a,cap,h4,h5⟩;exact⟨h0,h1,h2,h3,_,h4,a,cap,rfl,h5⟩
 .rintro ⟨h0,h1,h2,h3,kv,h4,a,cap,rfl,h5⟩;exact⟨h0,h1,h2,h3,a,cap,h4,h5⟩
mutual
theorem BO.keep(hS:∀g,S g->S' g)(hw:∀g,S g->w'.heap[g]?=w.heap[g]?):∀(n:Nd) (g o:Nat),BO S w n g o->BO S' w' n g o
 |.mk t k,g,o,h=>by unfold BO at h⊢;obtain⟨⟨h0,hok⟩,h1,h2,h3,a,cap,h4,hc,h5⟩:=h;have e:∀x,w'.cell? ⟨g,x,none⟩=w.cell? ⟨g,x,none⟩:=fun x=>World.cell?_of_block (w:=w) (hw g h0);refine⟨⟨hS g h0,hok⟩,by rw[e];exact h1,by rw[e];exact h2,by rw[e];exact h3,a,cap,by rw[e];exact h4,hc,fun hk=>?_⟩;obtain⟨g',o',h6,h7⟩:=h5 hk;exact⟨g',o',h6,gq.keep hS hw k g' o' h7⟩
theorem gq.keep(hS:∀g,S g->S' g)(hw:∀g,S g->w'.heap[g]?=w.heap[g]?):∀(l:List Nd) (g o:Nat),gq S w l g o->gq S' w' l g o
 |[],_,_,_=>by simp[gq]
 |n::r,g,o,h=>by unfold gq at h⊢;exact⟨BO.keep hS hw n g o h.1,gq.keep hS hw r g (o+4) h.2⟩
end
theorem Sl.keep{v:Av}{ns:List Nd}(h:Sl S w v ns)(hS:∀g,S g->S' g)(hw:∀g,S g->w'.heap[g]?=w.heap[g]?):Sl S' w' v ns:=by obtain⟨a,cap,h1,hc,h2⟩:=h;refine⟨a,cap,h1,hc,fun hn=>?_⟩;obtain⟨g,o,h3,h4⟩:=h2 hn;exact⟨g,o,h3,h4.keep hS hw⟩
theorem Sl.nil(S:Nat->Prop)(w:WD):Sl S w (.slice none 0 0) []:=⟨none,0,rfl,by simp,fun h=>absurd rfl h⟩
theorem Sl.len{v:Av}{ns:List Nd}(h:Sl S w v ns):ns.length<=600:=by obtain⟨_,_,_,hc,_⟩:=h;exact hc.2
theorem Sl.below{B B':Nat}{v:Av}{ns:List Nd}(h:Sl (fun b=>b<B) w v ns)(hb:Below B' w w')(hB:B<=B'):Sl (fun b=>b<B) w' v ns:=h.keep (fun _ hg=>hg) fun g hg=>hb.block g (Nat.lt_of_lt_of_le hg hB)
theorem gq.at:∀(l:List Nd) (g o i:Nat) (_:gq S w l g o) (hi:i<l.length),BO S w l[i] g (o+i*4)
 |n::r,g,o,0,h,_=>by unfold gq at h;simpa using h.1
 |n::r,g,o,i+1,h,hi=>by unfold gq at h;have:=gq.at r g (o+4) i h.2 (by simpa using hi);rw[show o+(i+1)*4=o+4+i*4 from by omega];simpa using this
theorem gq.drop:∀(l:List Nd) (g o i:Nat) (_:gq S w l g o),gq S w (l.drop i) g (o+i*4)
 |l,g,o,0,h=>by simpa using h
 |[],g,o,i+1,h=>by simp[gq]
 |n::r,g,o,i+1,h=>by unfold gq at h;rw[show o+(i+1)*4=o+4+i*4 from by omega];simpa using gq.drop r g (o+4) i h.2
theorem gq.take:∀(l:List Nd) (g o i:Nat) (_:gq S w l g o),gq S w (l.take i) g o
 |l,g,o,0,h=>by simp[gq]
 |[],g,o,i+1,h=>by simp[gq]
 |n::r,g,o,i+1,h=>by unfold gq at h;simp only[List.take_succ_cons];unfold gq;exact⟨h.1,gq.take r g (o+4) i h.2⟩
end
theorem Sl.cut{S:Nat->Prop}{w:WD}{a:Option Addr}{n cap:Nat}{ns:List Nd}(h:Sl S w (.slice a n cap) ns)(i j:Nat)(hij:i<=j)(hj:j<=ns.length):Sl S w (sliced a i j cap 4) ((ns.take j).drop i):=by
 obtain⟨a',cap',h1,⟨hc,h6⟩,h2⟩:=h;cases h1;unfold sliced;have hl:((ns.take j).drop i).length=j-i:=by simp;omega
 refine⟨_,cap-i,by rw[hl],⟨oo,oo⟩,fun hn=>?_⟩;have hne:ns≠[]:=by rintro rfl;simp at hn
 have hlt:i<j:=by
  by_cases e:i<j
  .exact e
  .exact absurd (List.eq_nil_of_length_eq_zero oo) hn
 obtain⟨g,o,rfl,h4⟩:=h2 hne;refine⟨g,o+i*4,?_,(h4.take ns g o j).drop _ g o i⟩;rw[if_neg oo];simp[Addr.add]
theorem Sl.iE(S:Nat->Prop)(w:WD)(a:Option Addr)(c:Nat):Sl S w (.slice a 0 c) []:=⟨a,c,rfl,⟨by simp,by simp⟩,fun h=>absurd rfl h⟩
theorem Sl.tail{S:Nat->Prop}{w:WD}{g o n cap:Nat}{x:Nd}{r:List Nd}(h:Sl S w (.slice (some ⟨g,o,none⟩) n cap) (x::r)):Sl S w (.slice (some ⟨g,o+4,none⟩) r.length (cap-1)) r:=by obtain⟨a',cap',h1,⟨hc,h6⟩,h2⟩:=h;cases h1;simp only[List.length_cons]at hc h6;refine⟨_,cap-1,rfl,⟨oo,oo⟩,fun _=>?_⟩;obtain⟨g',o',e,h4⟩:=h2 Ab;cases e;unfold gq at h4;exact⟨g,o+4,rfl,h4.2⟩
theorem Sl.init{S:Nat->Prop}{w:WD}{a:Option Addr}{n cap:Nat}{ns:List Nd}(h:Sl S w (.slice a n cap) ns)(j:Nat)(hj:j<=ns.length):Sl S w (.slice a j cap) (ns.take j):=by obtain⟨a',cap',h1,⟨hc,h6⟩,h2⟩:=h;cases h1;refine⟨a,cap,by simp;omega,⟨by simp;omega,by simp;omega⟩,fun hn=>?_⟩;obtain⟨g,o,rfl,h4⟩:=h2 (by rintro rfl;simp at hn);exact⟨g,o,rfl,h4.take ns g o j⟩
theorem Sl.here{S:Nat->Prop}{w:WD}{a:Option Addr}{n cap:Nat}{ns:List Nd}(h:Sl S w (.slice a n cap) ns)(hn:ns≠[]):∃g o,a=some ⟨g,o,none⟩/\gq S w ns g o/\ns.length<=cap:=by obtain⟨a',cap',h1,⟨hc,h6⟩,h2⟩:=h;cases h1;obtain⟨g,o,rfl,h4⟩:=h2 hn;exact⟨g,o,rfl,h4,hc⟩
theorem Sl.form{S:Nat->Prop}{w:WD}{v:Av}{ns:List Nd}(h:Sl S w v ns):∃a cap,v=.slice a ns.length cap:=by obtain⟨a,cap,h1,_⟩:=h;exact⟨a,cap,h1⟩
structure MC(S:Nat->Prop)(w:WD)(n:Nd)(g o:Nat)(kv:Av):Prop where
 s:S g
 c0:w.cell? ⟨g,o,none⟩=some (.int .i64 n.t.kind)
 c1:w.cell? ⟨g,o+1,none⟩=some (.string n.t.word)
 c2:w.cell? ⟨g,o+2,none⟩=some (.string n.t.unit)
 c3:w.cell? ⟨g,o+3,none⟩=some kv
 k:Sl S w kv n.kids
 ok:dI n.t
theorem gq.node{S:Nat->Prop}{w:WD}{l:List Nd}{g o i:Nat}(h:gq S w l g o)(hi:i<l.length):∃kv,MC S w l[i] g (o+i*4) kv:=by
 have h1:=h.at l g o i hi;obtain⟨t,k,e⟩:∃t k,l[i]=Nd.mk t k:=by cases l[i];exact⟨_,_,rfl⟩
 rw[e]at h1⊢;rw[MB]at h1;obtain⟨⟨h0,hok⟩,h1,h2,h3,kv,h4,h5⟩:=h1;exact⟨kv,h0,h1,h2,h3,h4,h5,hok⟩
theorem Sl.head{S:Nat->Prop}{w:WD}{v:Av}{x:Nd}{r:List Nd}(h:Sl S w v (x::r)):∃g o kv cap,v=.slice (some ⟨g,o,none⟩) (r.length+1) cap/\MC S w x g o kv/\r.length+1<=cap:=by obtain⟨a,cap,rfl⟩:=h.form;obtain⟨g,o,rfl,hL,hc⟩:=h.here Ab;obtain⟨kv,hN⟩:=hL.node (i:=0) Ab;exact⟨g,o,kv,cap,rfl,by simpa using hN,hc⟩
def tq(S:Nat->Prop)(w:WD):List Nd->List Av->Prop
 |[],cs=>cs=[]
 |n::r,cs=>∃kv rest,cs=[.int .i64 n.t.kind,.string n.t.word,.string n.t.unit,kv]++rest/\(Sl S w kv n.kids/\dI n.t)/\tq S w r rest
theorem tq.keep{S S':Nat->Prop}{w w':WD}(hS:∀g,S g->S' g)(hw:∀g,S g->w'.heap[g]?=w.heap[g]?):∀(l:List Nd) (cs:List Av),tq S w l cs->tq S' w' l cs
 |[],_,h=>h
 |_::r,_,⟨kv,rest,h1,h2,h3⟩=>⟨kv,rest,h1,⟨h2.1.keep hS hw,h2.2⟩,tq.keep hS hw r rest h3⟩
theorem tq.snoc{S:Nat->Prop}{w:WD}:∀(l:List Nd) (cs:List Av) (_:tq S w l cs) (n:Nd) (kv:Av) (_:Sl S w kv n.kids/\dI n.t),tq S w (l++[n]) (cs++[.int .i64 n.t.kind,.string n.t.word,.string n.t.unit,kv])
 |[],cs,h,n,kv,hk=>⟨kv,[],by simp[show cs=[] from h],hk,rfl⟩
 |m::r,cs,⟨kv',rest,h1,h2,h3⟩,n,kv,hk=>⟨kv',rest++[.int .i64 n.t.kind,.string n.t.word,.string n.t.unit,kv],by simp[h1],h2,tq.snoc r rest h3 n kv hk⟩
theorem tq.lies{S:Nat->Prop}{w:WD}{g:Nat}(hg:S g):∀(l:List Nd) (cs:List Av) (o:Nat) (_:tq S w l cs) (_:∀j u,cs[j]?=some u->w.cell? ⟨g,o+j,none⟩=some u),gq S w l g o
 |[],_,_,_,_=>by simp[gq]
 |.mk t k::r,cs,o,⟨kv,rest,h1,h2,h3⟩,hc=>by subst h1;unfold gq;rw[MB];refine⟨⟨⟨hg,h2.2⟩,hc 0 _ rfl,hc 1 _ rfl,hc 2 _ rfl,kv,hc 3 _ rfl,h2.1⟩,tq.lies hg r rest (o+4) h3 fun j u hu=>?_⟩;rw[show o+4+j=o+(j+4) from by omega];exact hc (j+4) u (by simpa using hu)
def DZ(base:Nat)(w:WD)(v:Av)(b:Nat):Prop:=base<=b/\b<w.heap.size/\some b≠v.ownBlock
def oD(base:Nat)(w:WD)(b:Nat):Prop:=base<=b/\b<w.heap.size
def Ei(T:TypeId)(base:Nat)(w:WD)(v:Av)(l:List Nd):Prop:=∃cs,w.ownsRow base T 4 v l.length cs/\tq (DZ base w v) w l cs
theorem Ei.nil(T:TypeId)(base:Nat)(w:WD):Ei T base w (.slice none 0 0) []:=⟨[],World.ownsRow_nil _ _ _ _,rfl⟩
theorem Ei.sl{T:TypeId}{base:Nat}{w:WD}{v:Av}{l:List Nd}(h:Ei T base w v l)(h6:l.length<=600):Sl (oD base w) w v l:=by
 obtain⟨cs,h1,h2⟩:=h;have h3:tq (oD base w) w l cs:=h2.keep (fun g hg=>⟨hg.1,hg.2.1⟩) (fun _ _=>rfl);rcases h1.2 with⟨rfl,hn⟩|⟨g,cap,cur,rfl,hbg,hg,hnc,hrest⟩
 .have:l=[]:=List.eq_nil_of_length_eq_zero hn;subst this;exact Sl.nil _ _
 .refine⟨_,cap,rfl,⟨hnc,h6⟩,fun _=>⟨g,0,rfl,tq.lies ⟨hbg,(Ay hg)⟩ l cs 0 h3 fun j u hu=>?_⟩⟩;have:=h1.cells (g:=g) rfl j u hu;rw[Addr.add_lit,Nat.zero_add]at this;rw[Nat.zero_add];exact this
theorem Ei.lt{T:TypeId}{base:Nat}{w:WD}{v:Av}{l:List Nd}(h:Ei T base w v l):∀k,v.ownBlock=some k->base<=k/\k<w.heap.size:=by obtain⟨cs,h1,_⟩:=h;exact h1.lt
theorem Ei.keep{T:TypeId}{base:Nat}{w w':WD}{v:Av}{l:List Nd}(h:Ei T base w v l)(hs:w.heap.size<=w'.heap.size)(hw:∀g,base<=g->g<w.heap.size->w'.heap[g]?=w.heap[g]?):Ei T base w' v l:=by
 obtain⟨cs,h1,h2⟩:=h;refine⟨cs,⟨h1.1,?_⟩,h2.keep (fun g hg=>⟨hg.1,by have:=hg.2.1;omega,hg.2.2⟩) (fun g hg=>hw g hg.1 hg.2.1)⟩;rcases h1.2 with hn|⟨g,cap,cur,rfl,hbg,hgg,rest⟩
 .exact .inl hn
 .exact .inr ⟨g,cap,cur,rfl,hbg,by rw[hw g hbg (Ay hgg)];exact hgg,rest⟩
theorem Ei.alloc{T:TypeId}{base:Nat}{w:WD}{v:Av}{l:List Nd}(h:Ei T base w v l)(o:Obj):Ei T base (w.alloc o) v l:=h.keep Ab fun g _ hg=>Below.heap_alloc _ _ _ hg
theorem Ei.form{T:TypeId}{base:Nat}{w:WD}{v:Av}{l:List Nd}(h:Ei T base w v l):∃a cap,v=.slice a l.length cap:=by
 obtain⟨cs,h1,_⟩:=h;rcases h1.2 with⟨rfl,hn⟩|⟨g,cap,cur,rfl,_⟩
 .exact⟨none,0,by rw[hn]⟩
 .exact⟨_,_,rfl⟩
theorem Ei.snoc{T:TypeId}{base:Nat}{w w2:WD}{v v2:Av}{l:List Nd}{cs:List Av}{n:Nd}{kv:Av}(h2:tq (DZ base w v) w l cs)(hk:Sl (DZ base w v) w kv n.kids)(hn:dI n.t)
  (hown:w2.ownsRow base T 4 v2 (l.length+1) (cs++[.int .i64 n.t.kind,.string n.t.word,.string n.t.unit,kv])) (hg:w.grownBy w2 v.ownBlock) (hat:v2.ownBlock=v.ownBlock\/v2.ownBlock=some w.heap.size):Ei T base w2 v2 (l++[n]):=by
 have hS:∀g,DZ base w v g->DZ base w2 v2 g:=by
  rintro g ⟨h3,h4,h5⟩;refine⟨h3,Nat.lt_of_lt_of_le h4 hg.size,?_⟩;rcases hat with e|e
  .rw[e];exact h5
  .rw[e];intro e2;cases e2;omega
 have hw:∀g,DZ base w v g->w2.heap[g]?=w.heap[g]?:=fun g hgg=>hg.block g hgg.2.1 hgg.2.2;refine⟨_,by rw[List.length_append];exact hown,tq.snoc _ _ (h2.keep hS hw) n kv ⟨hk.keep hS hw,hn⟩⟩
theorem Ei.apart{T:TypeId}{base:Nat}{w w3 W:WD}{v kv:Av}{l ks:List Nd}(h:Ei T base w v l)(hk:Sl (oD w.heap.size w3) w3 kv ks)(hbase:base<=w.heap.size)(hs:w3.heap.size<=W.heap.size)(hw:∀g,g<w3.heap.size->W.heap[g]?=w3.heap[g]?):Sl (DZ base W v) W kv ks:=hk.keep (fun g hg=>⟨by have:=hg.1;omega,by have:=hg.2;omega,fun e=>by have:=(h.lt g e.symm).2;have:=hg.1;omega⟩) fun g hg=>hw g hg.2
end
theorem Qr{a b:BY}(h:a=b):Ending.returned (.string a)=Ending.returned (.string b):=by rw[h]
