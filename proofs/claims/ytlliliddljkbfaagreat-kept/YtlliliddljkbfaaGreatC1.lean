set_option maxHeartbeats 64000000
set_option maxRecDepth 100000
namespace Go.Proofs.YtlliliddljkbfaaGreat.Sp
abbrev BY:=ByteArray
theorem AE{p:Prop}(h:p:=by omega):p:=h
def pk(s:BY)(i:Nat):Int:=if h:i<s.size then(s[i].toNat:Int) else -1
def aO(c:Int):Bool:=c==10||c==9||c==32
def fG(c:Int):Bool:=decide (48<=c)&&decide (c<=57)
def kK(c:Int):Bool:=(decide (97<=c)&&decide (c<=122))||(decide (65<=c)&&decide (c<=90))||c==95||decide (127<c)
def lX(c:Int):Bool:=kK c||fG c||c==45
def ou(c:Int):Bool:=c==43||c==45
def dD(c:Int):Bool:=c==34||c==39
def Eb(c:Int):Bool:=dD c||c==40||c==92||decide (c<32)||c==127
def xk(c:Int):Int:=if fG c=true then c-48 else if 97<=c/\c<=102 then c-97+10 else if 65<=c/\c<=70 then c-65+10 else -1
def one(s:BY)(i:Nat):BY:=s.extract i (i+1)
def kY(s:BY)(i:Nat):Bool:=pk s i==92&&pk s (i+1) != 10
def jT(s:BY)(i:Nat):Bool:=lX (pk s i)||kY s i
def iG(s:BY)(i:Nat):Bool:=if pk s i=45 then kK (pk s (i+1))||pk s (i+1)==45||kY s (i+1) else kK (pk s i)||kY s i
def tJ(s:BY):Nat->Nat->Nat->Nat×Nat
 |0,i,n=>(n,i)
 |f+1,i,n=>if 0<=xk (pk s i) then tJ s f (i+1) (n*16+(xk (pk s i)).toNat) else(n,i)
def Ec:BY:=⟨#[63]⟩
def E8(n:Nat):BY:=⟨#[UInt8.ofNat n]⟩
def esc(s:BY)(i:Nat):BY×Nat:=
 let r:=tJ s 6 (i+1) 0
 if r.2=i+1 then(if i+1<s.size then(one s (i+1),i+2) else(Ec,i+1))
 else(if 1<=r.1/\r.1<=255 then E8 r.1 else Ec,if aO (pk s r.2)=true then r.2+1 else r.2)
def iK(s:BY):Nat->Nat->BY->BY×Nat
 |0,i,acc=>(acc,i)
 |f+1,i,acc=>
  if lX (pk s i)=true then iK s f (i+1) (acc++one s i)
  else if kY s i=true then iK s f (esc s i).2 (acc++(esc s i).1)
  else(acc,i)
def name(s:BY)(i:Nat):BY×Nat:=iK s s.size i ByteArray.empty
def Ae(s:BY):Nat->Nat->Nat
 |0,i=>i
 |f+1,i=>if aO (pk s i)=true then Ae s f (i+1) else i
def blk(s:BY)(i:Nat):Nat:=Ae s s.size i
def wU(s:BY):Nat->Nat->Nat
 |0,i=>i
 |f+1,i=>if fG (pk s i)=true then wU s f (i+1) else i
def mW(s:BY)(i:Nat):Nat:=wU s s.size i
def mX(s:BY)(i:Nat):Nat:=if ou (pk s i)=true then i+1 else i
def iO(s:BY)(i:Nat):Bool:=fG (pk s (mX s i))||(pk s (mX s i)==46&&fG (pk s (mX s i+1)))
def iq(s:BY)(k:Nat):Nat:=if pk s k=101\/pk s k=69 then(if fG (pk s (mX s (k+1)))=true then mW s (mX s (k+1)) else k) else k
def jL(s:BY)(k:Nat):Nat:=if pk s k=46/\fG (pk s (k+1))=true then mW s (k+1) else k
def bT(s:BY)(i:Nat):Nat:=iq s (jL s (mW s (mX s i)))
def lY(s:BY):Nat->Nat->Nat
 |0,k=>k
 |f+1,k=>if k<s.size/\¬(pk s k=42/\pk s (k+1)=47) then lY s f (k+1) else k
def star(s:BY)(k:Nat):Nat:=lY s s.size k
def Bv(s:BY):Nat->Nat->Nat
 |0,i=>i
 |f+1,i=>if pk s i=47/\pk s (i+1)=42 then(if s.size<=star s (i+2) then s.size else Bv s f (star s (i+2)+2)) else i
def com(s:BY)(i:Nat):Nat:=Bv s s.size i
structure Tok where
 kind:Int
 word:BY
 unit:BY
def Tok.k(n:Int):Tok:=⟨n,ByteArray.empty,ByteArray.empty⟩
def Tok.w(n:Int)(x:BY):Tok:=⟨n,x,ByteArray.empty⟩
def lK(s:BY)(q:Int):Nat->Nat->BY->Tok×Nat
 |0,i,acc=>(Tok.w 2 acc,i)
 |f+1,i,acc=>
  if s.size<=i then(Tok.w 2 acc,i)
  else if pk s i=q then(Tok.w 2 acc,i+1)
  else if pk s i=10 then(Tok.k 3,i)
  else if pk s i=92 then
   (if s.size<=i+1 then lK s q f (i+1) acc
    else if pk s (i+1)=10 then lK s q f (i+2) acc
    else lK s q f (esc s i).2 (acc++(esc s i).1))
  else lK s q f (i+1) (acc++one s i)
def txt(s:BY)(q:Int)(i:Nat):Tok×Nat:=lK s q s.size i ByteArray.empty
def Ed(s:BY):Nat->Nat->Nat
 |0,i=>i
 |f+1,i=>
  if s.size<=i then i
  else if pk s i=41 then i+1
  else if kY s i=true then Ed s f (esc s i).2
  else Ed s f (i+1)
def bad(s:BY)(i:Nat):Nat:=Ed s s.size i
def jd(s:BY):Nat->Nat->BY->Tok×Nat
 |0,i,acc=>(Tok.w 12 acc,i)
 |f+1,i,acc=>
  if s.size<=i then(Tok.w 12 acc,i)
  else if pk s i=41 then(Tok.w 12 acc,i+1)
  else if aO (pk s i)=true then
   (if s.size<=blk s i then(Tok.w 12 acc,blk s i)
    else if pk s (blk s i)=41 then(Tok.w 12 acc,blk s i+1)
    else(Tok.k 13,bad s (blk s i)))
  else if kY s i=true then jd s f (esc s i).2 (acc++(esc s i).1)
  else if Eb (pk s i)=true then(Tok.k 13,bad s i)
  else jd s f (i+1) (acc++one s i)
def link(s:BY)(i:Nat):Tok×Nat:=jd s s.size i ByteArray.empty
def jr(c:UInt8):UInt8:=if 65<=c/\c<=90 then c+32 else c
def small(s:BY):BY:=⟨(s.data.toList.map jr).toArray⟩
def url:BY:=⟨#[117,114,108]⟩
def numeric(s:BY)(i:Nat):Tok×Nat:=
 let k:=bT s i
 if pk s k=37 then(Tok.w 6 (s.extract i k),k+1)
 else if iG s k=true then(⟨7,s.extract i k,(name s k).1⟩,(name s k).2)
 else(Tok.w 5 (s.extract i k),k)
def named(s:BY)(i:Nat):Tok×Nat:=
 let r:=name s i
 if pk s r.2=40 then
  (if small r.1=url/\dD (pk s (blk s (r.2+1)))=false then link s (blk s (r.2+1))
   else(Tok.w 11 r.1,r.2+1))
 else(Tok.w 14 r.1,r.2)
def kG(s:BY)(i:Nat):Bool:=pk s i==60&&pk s (i+1)==33&&pk s (i+2)==45&&pk s (i+3)==45
def kL(s:BY)(i:Nat):Bool:=pk s i==45&&pk s (i+1)==45&&pk s (i+2)==62
def token(s:BY)(i:Nat):Tok×Nat:=
 if aO (pk s i)=true then(Tok.k 1,blk s i)
 else if dD (pk s i)=true then txt s (pk s i) (i+1)
 else if pk s i=35/\jT s (i+1)=true then(Tok.w 4 (name s (i+1)).1,(name s (i+1)).2)
 else if iO s i=true then numeric s i
 else if kG s i=true then(Tok.k 8,i+4)
 else if kL s i=true then(Tok.k 9,i+3)
 else if pk s i=64/\iG s (i+1)=true then(Tok.w 10 (name s (i+1)).1,(name s (i+1)).2)
 else if iG s i=true then named s i
 else(Tok.w 15 (one s i),i+1)
def tokF(s:BY):Nat->Nat->List Tok
 |0,_=>[]
 |f+1,i=>if s.size<=i then [] else(token s i).1::tokF s f (com s (token s i).2)
def toks(s:BY):List Tok:=tokF s s.size (com s 0)
def ZO(s:BY)(i:Nat):List UInt8:=
 if h:i<s.size then
  (if s[i]=13/\pk s (i+1)=10 then [] else if s[i]=13\/s[i]=12 then [10] else if s[i]=0 then [63] else [s[i]])
 else []
def bC(s:BY):Nat->List UInt8
 |0=>[]
 |k+1=>bC s k++ZO s k
def clean(s:BY):BY:=⟨(bC s s.size).toArray⟩
theorem zK{s:BY}{i:Nat}(h:i<s.size):pk s i=(s[i].toNat:Int):=by unfold pk;rw[dif_pos h]
theorem oK{s:BY}{i:Nat}(h:s.size<=i):pk s i = -1:=by unfold pk;rw[dif_neg (by omega)]
theorem abT(s:BY)(i:Nat): -1<=pk s i:=by unfold pk;split<;>omega
theorem Yj(s:BY)(i:Nat):pk s i<=255:=by
 unfold pk;split
 .have:=(s[i]).toNat_lt;omega
 .omega
theorem dY{s:BY}{i:Nat}(h:0<=pk s i):i<s.size:=by
 by_cases h1:i<s.size
 .exact h1
 .rw[oK (by omega)]at h;omega
theorem tK{s:BY}{i:Nat}(h:i<s.size):0<=pk s i:=by rw[zK h];omega
theorem lZ{c:Int}(h:aO c=true):0<=c:=by simp[aO]at h;omega
theorem kM{c:Int}(h:fG c=true):48<=c/\c<=57:=by simp[fG]at h;exact h
theorem afG{c:Int}(h:kK c=true):0<=c:=by simp[kK]at h;omega
theorem uV{c:Int}(h:lX c=true):0<=c:=by
 simp only[lX,Bool.or_eq_true,beq_iff_eq]at h;rcases h with (h|h)|h
 .exact afG h
 .have:=kM h;omega
 .omega
theorem Yk{c:Int}(h:ou c=true):0<=c:=by simp[ou]at h;omega
theorem abU{c:Int}(h:dD c=true):0<=c:=by simp[dD]at h;omega
theorem abV{c:Int}(h:0<=xk c):0<=c:=by
 unfold xk at h;split at h
 .rename_i h1;have:=kM h1;omega
 .split at h
  .omega
  .split at h<;>omega
theorem aiJ(c:Int):xk c<=15:=by
 unfold xk;split
 .rename_i h1;have:=kM h1;omega
 .split
  .omega
  .split<;>omega
theorem aiK(c:Int): -1<=xk c:=by
 unfold xk;split
 .rename_i h1;have:=kM h1;omega
 .split
  .omega
  .split<;>omega
theorem abW{s:BY}{i:Nat}(h:kY s i=true):pk s i=92/\pk s (i+1)≠10:=by simpa[kY]using h
theorem Oc{s:BY}{i:Nat}(h:kY s i=true):i<s.size:=dY (by have:=(abW h).1;omega)
theorem iQ{s:BY}{i:Nat}(h:i<s.size):(one s i).size=1:=by simp[one];omega
theorem Yl(s:BY):∀f i n,i<=(tJ s f i n).2
 |0,i,n=>Nat.le_refl _
 |f+1,i,n=>by
  unfold tJ;split
  .have:=Yl s f (i+1) (n*16+(xk (pk s i)).toNat);omega
  .exact Nat.le_refl _
theorem Ym(s:BY):∀f i n,i<=s.size->(tJ s f i n).2<=s.size
 |0,i,n,h=>h
 |f+1,i,n,h=>by
  unfold tJ;split
  .rename_i h1;exact Ym s f (i+1) _ (dY (abV h1))
  .exact h
theorem oL(s:BY)(i:Nat):i<(esc s i).2:=by
 have h:=Yl s 6 (i+1) 0;unfold esc;dsimp only
 split
 .split<;>dsimp only<;>omega
 .dsimp only;split<;>omega
theorem uX{s:BY}{i:Nat}(hi:i<s.size):(esc s i).2<=s.size:=by
 have h:=Ym s 6 (i+1) 0 AE;unfold esc;dsimp only
 split
 .split<;>dsimp only<;>omega
 .dsimp only
  split
  .rename_i h1;have:=dY (lZ h1);omega
  .exact h
theorem kN{s:BY}{i:Nat}:(esc s i).1.size=1:=by
 unfold esc;dsimp only
 split
 .split
  .rename_i h;exact iQ h
  .rfl
 .dsimp only;split<;>rfl
theorem xq(s:BY):∀f i acc,i<=(iK s f i acc).2
 |0,i,acc=>Nat.le_refl _
 |f+1,i,acc=>by
  unfold iK;split
  .have:=xq s f (i+1) (acc++one s i);omega
  .split
   .have:=xq s f (esc s i).2 (acc++(esc s i).1);have:=oL s i;omega
   .exact Nat.le_refl _
theorem GV(s:BY):∀f i acc,i<=s.size->(iK s f i acc).2<=s.size
 |0,i,acc,h=>h
 |f+1,i,acc,h=>by
  unfold iK;split
  .rename_i h1;exact GV s f (i+1) _ (dY (uV h1))
  .split
   .rename_i h1;exact GV s f _ _ (uX (Oc h1))
   .exact h
theorem Oe(s:BY)(i:Nat):i<=(name s i).2:=xq _ _ _ _
theorem yV{s:BY}{i:Nat}(h:i<=s.size):(name s i).2<=s.size:=GV _ _ _ _ h
theorem afH{s:BY}{i:Nat}(h:jT s i=true):i<(name s i).2:=by
 have hl:i<s.size:=by
  simp only[jT,Bool.or_eq_true]at h;rcases h with h|h
  .exact dY (uV h)
  .exact Oc h
 unfold name;obtain⟨f,hf⟩:∃f,s.size=f+1:=⟨s.size-1,by omega⟩;rw[hf];unfold iK;split
 .have:=xq s f (i+1) (ByteArray.empty++one s i);omega
 .split
  .have:=xq s f (esc s i).2 (ByteArray.empty++(esc s i).1);have:=oL s i;omega
  .rename_i h1 h2;simp[jT,h1,h2]at h
theorem xu{s:BY}{i:Nat}(h:iG s i=true):jT s i=true:=by
 unfold iG at h;split at h
 .rename_i h1;simp[jT,lX,h1]
 .simp only[Bool.or_eq_true]at h;rcases h with h|h
  .simp[jT,lX,h]
  .simp[jT,h]
theorem Og(s:BY):∀f i,i<=Ae s f i
 |0,i=>Nat.le_refl _
 |f+1,i=>by
  unfold Ae;split
  .have:=Og s f (i+1);omega
  .exact Nat.le_refl _
theorem Yn(s:BY):∀f i,i<=s.size->Ae s f i<=s.size
 |0,i,h=>h
 |f+1,i,h=>by
  unfold Ae;split
  .rename_i h1;exact Yn s f (i+1) (dY (lZ h1))
  .exact h
theorem Ee(s:BY)(i:Nat):i<=blk s i:=Og _ _ _
theorem Oh{s:BY}{i:Nat}(h:i<=s.size):blk s i<=s.size:=Yn _ _ _ h
theorem Vp{s:BY}{i:Nat}(h:aO (pk s i)=true):i<blk s i:=by have hl:=dY (lZ h);unfold blk;obtain⟨f,hf⟩:∃f,s.size=f+1:=⟨s.size-1,by omega⟩;rw[hf];unfold Ae;rw[if_pos h];have:=Og s f (i+1);omega
theorem Oi(s:BY):∀f i,i<=wU s f i
 |0,i=>Nat.le_refl _
 |f+1,i=>by
  unfold wU;split
  .have:=Oi s f (i+1);omega
  .exact Nat.le_refl _
theorem Yo(s:BY):∀f i,i<=s.size->wU s f i<=s.size
 |0,i,h=>h
 |f+1,i,h=>by
  unfold wU;split
  .rename_i h1;exact Yo s f (i+1) (dY (by have:=kM h1;omega))
  .exact h
theorem xw(s:BY)(i:Nat):i<=mW s i:=Oi _ _ _
theorem GX{s:BY}{i:Nat}(h:i<=s.size):mW s i<=s.size:=Yo _ _ _ h
theorem GY{s:BY}{i:Nat}(h:fG (pk s i)=true):i<mW s i:=by have hl:i<s.size:=dY (by have:=kM h;omega);unfold mW;obtain⟨f,hf⟩:∃f,s.size=f+1:=⟨s.size-1,by omega⟩;rw[hf];unfold wU;rw[if_pos h];have:=Oi s f (i+1);omega
theorem Qm{s:BY}{i:Nat}(h:fG (pk s i)=false):mW s i=i:=by
 unfold mW;cases hf:s.size with
 |zero=>rfl
 |succ f=>unfold wU;rw[if_neg (by simp[h])]
theorem Ef(s:BY)(i:Nat):i<=mX s i:=by unfold mX;split<;>omega
theorem aiL{s:BY}{i:Nat}(h:i<=s.size):mX s i<=s.size:=by
 unfold mX;split
 .rename_i h1;have:=dY (Yk h1);omega
 .exact h
theorem afI(s:BY)(i:Nat):mX s i<=i+1:=by unfold mX;split<;>omega
theorem Oj(s:BY)(k:Nat):k<=iq s k:=by
 unfold iq;split
 .split
  .have:=xw s (mX s (k+1));have:=Ef s (k+1);omega
  .exact Nat.le_refl _
 .exact Nat.le_refl _
theorem afJ{s:BY}{k:Nat}(h:k<=s.size):iq s k<=s.size:=by
 unfold iq;split
 .split
  .rename_i h2;exact GX (by have:=dY (s:=s) (i:=mX s (k+1)) (by have:=kM h2;omega);omega)
  .exact h
 .exact h
theorem Bz(s:BY)(k:Nat):k<=jL s k:=by
 unfold jL;split
 .have:=xw s (k+1);omega
 .exact Nat.le_refl _
theorem abX{s:BY}{k:Nat}(h:k<=s.size):jL s k<=s.size:=by
 unfold jL;split
 .rename_i h2;exact GX (by have:=dY (s:=s) (i:=k+1) (by have:=kM h2.2;omega);omega)
 .exact h
theorem yX{s:BY}{i:Nat}(h:i<=s.size):bT s i<=s.size:=afJ (abX (GX (aiL h)))
theorem yY{s:BY}{i:Nat}(h:iO s i=true):i<bT s i:=by
 have h1:=Ef s i;have h3:=Bz s (mW s (mX s i));have h4:=Oj s (jL s (mW s (mX s i)));unfold bT;simp only[iO,Bool.or_eq_true,Bool.and_eq_true,beq_iff_eq]at h;rcases h with h|⟨h,h'⟩
 .have:=GY h;omega
 .have e:fG (pk s (mX s i))=false:=by rw[h];rfl
  have h5:jL s (mX s i)=mW s (mX s i+1):=by unfold jL;rw[if_pos ⟨h,h'⟩]
  have:=xw s (mX s i+1);rw[Qm e]at h3 h4⊢;omega
theorem afK(s:BY)(i:Nat):i<=bT s i:=by have h1:=Ef s i;have h2:=xw s (mX s i);have h3:=Bz s (mW s (mX s i));have h4:=Oj s (jL s (mW s (mX s i)));unfold bT;omega
theorem BF(s:BY):∀f k,k<=lY s f k
 |0,k=>Nat.le_refl _
 |f+1,k=>by
  unfold lY;split
  .have:=BF s f (k+1);omega
  .exact Nat.le_refl _
theorem Qn(s:BY):∀f k,k<=s.size->lY s f k<=s.size
 |0,k,h=>h
 |f+1,k,h=>by
  unfold lY;split
  .exact Qn s f (k+1) AE
  .exact h
theorem Ol(s:BY)(k:Nat):k<=star s k:=BF _ _ _
theorem afL{s:BY}{k:Nat}(h:k<=s.size):star s k<=s.size:=Qn _ _ _ h
theorem Qo(s:BY):∀f k,s.size<=k+f->lY s f k<s.size->pk s (lY s f k)=42/\pk s (lY s f k+1)=47
 |0,k,h,h'=>by unfold lY at h';omega
 |f+1,k,h,h'=>by
  unfold lY at h' ⊢;split
  .rename_i h1;rw[if_pos h1]at h';exact Qo s f (k+1) AE h'
  .rename_i h1;rw[if_neg h1]at h';exact Classical.byContradiction fun hn=>h1 ⟨h',hn⟩
theorem afM{s:BY}{k:Nat}(h:star s k<s.size):pk s (star s k)=42/\pk s (star s k+1)=47:=Qo _ _ _ AE h
theorem GZ{s:BY}{k:Nat}(h:star s k<s.size):star s k+2<=s.size:=by have:=dY (s:=s) (i:=star s k+1) (by have:=(afM h).2;omega);omega
theorem Yp(s:BY):∀f i,i<=s.size->i<=Bv s f i
 |0,i,_=>Nat.le_refl _
 |f+1,i,h=>by
  unfold Bv;split
  .split
   .exact h
   .rename_i h2;have h3:=Ol s (i+2);have h4:=GZ (s:=s) (k:=i+2) AE;have:=Yp s f (star s (i+2)+2) h4;omega
  .exact Nat.le_refl _
theorem Yq(s:BY):∀f i,i<=s.size->Bv s f i<=s.size
 |0,i,h=>h
 |f+1,i,h=>by
  unfold Bv;split
  .split
   .exact Nat.le_refl _
   .exact Yq s f _ (GZ AE)
  .exact h
theorem Vq{s:BY}{i:Nat}(h:i<=s.size):i<=com s i:=Yp _ _ _ h
theorem Af{s:BY}{i:Nat}(h:i<=s.size):com s i<=s.size:=Yq _ _ _ h
theorem BG(s:BY)(q:Int):∀f i acc,i<=(lK s q f i acc).2
 |0,i,acc=>Nat.le_refl _
 |f+1,i,acc=>by
  unfold lK;split
  .exact Nat.le_refl _
  .split
   .exact Nat.le_succ _
   .split
    .exact Nat.le_refl _
    .split
     .split
      .have:=BG s q f (i+1) acc;omega
      .split
       .have:=BG s q f (i+2) acc;omega
       .have:=BG s q f (esc s i).2 (acc++(esc s i).1);have:=oL s i;omega
     .have:=BG s q f (i+1) (acc++one s i);omega
theorem BH(s:BY)(q:Int):∀f i acc,i<=s.size->(lK s q f i acc).2<=s.size
 |0,i,acc,h=>h
 |f+1,i,acc,h=>by
  unfold lK;split
  .exact h
  .split
   .show i+1<=s.size;omega
   .split
    .exact h
    .split
     .split
      .exact BH s q f _ _ AE
      .split
       .rename_i h5 h6;exact BH s q f _ _ (by have:=dY (s:=s) (i:=i+1) AE;omega)
       .exact BH s q f _ _ (uX AE)
     .exact BH s q f _ _ AE
theorem aiM(s:BY)(q:Int)(i:Nat):i<=(txt s q i).2:=BG _ _ _ _ _
theorem aiN{s:BY}{q:Int}{i:Nat}(h:i<=s.size):(txt s q i).2<=s.size:=BH _ _ _ _ _ h
theorem Om(s:BY):∀f i,i<=Ed s f i
 |0,i=>Nat.le_refl _
 |f+1,i=>by
  unfold Ed;split
  .exact Nat.le_refl _
  .split
   .exact Nat.le_succ _
   .split
    .have:=Om s f (esc s i).2;have:=oL s i;omega
    .have:=Om s f (i+1);omega
theorem Oo(s:BY):∀f i,i<=s.size->Ed s f i<=s.size
 |0,i,h=>h
 |f+1,i,h=>by
  unfold Ed;split
  .exact h
  .split
   .omega
   .split
    .exact Oo s f _ (uX AE)
    .exact Oo s f _ AE
theorem Oq(s:BY)(i:Nat):i<=bad s i:=Om _ _ _
theorem abY{s:BY}{i:Nat}(h:i<=s.size):bad s i<=s.size:=Oo _ _ _ h
theorem G7(s:BY):∀f i acc,i<=(jd s f i acc).2
 |0,i,acc=>Nat.le_refl _
 |f+1,i,acc=>by
  unfold jd;split
  .exact Nat.le_refl _
  .split
   .exact Nat.le_succ _
   .split
    .have h1:=Ee s i;have h2:=Oq s (blk s i);split
     .exact h1
     .split
      .show i<=blk s i+1;omega
      .show i<=bad s (blk s i);omega
    .split
     .have:=G7 s f (esc s i).2 (acc++(esc s i).1);have:=oL s i;omega
     .split
      .exact Oq s i
      .have:=G7 s f (i+1) (acc++one s i);omega
theorem G8(s:BY):∀f i acc,i<=s.size->(jd s f i acc).2<=s.size
 |0,i,acc,h=>h
 |f+1,i,acc,h=>by
  unfold jd;split
  .exact h
  .split
   .show i+1<=s.size;omega
   .split
    .have h1:=Oh h;split
     .exact h1
     .split
      .show blk s i+1<=s.size;omega
      .exact abY h1
    .split
     .exact G8 s f _ _ (uX AE)
     .split
      .exact abY h
      .exact G8 s f _ _ AE
theorem afN(s:BY)(i:Nat):i<=(link s i).2:=G7 _ _ _ _
theorem afO{s:BY}{i:Nat}(h:i<=s.size):(link s i).2<=s.size:=G8 _ _ _ _ h
theorem Vr{s:BY}{i:Nat}(h:iO s i=true):i<(numeric s i).2:=by
 have h1:=yY h;have h2:=Oe s (bT s i);unfold numeric;dsimp only
 split
 .dsimp only;omega
 .split<;>dsimp only<;>omega
theorem Vs{s:BY}{i:Nat}(h:i<=s.size):(numeric s i).2<=s.size:=by
 have h1:=yX h;unfold numeric;dsimp only
 split
 .rename_i h2;have:=dY (s:=s) (i:=bT s i) AE;dsimp only;omega
 .split
  .exact yV h1
  .exact h1
theorem abZ{s:BY}{i:Nat}(h:iG s i=true):i<(named s i).2:=by
 have h1:=afH (xu h);have h2:=Ee s ((name s i).2+1);have h3:=afN s (blk s ((name s i).2+1));unfold named;dsimp only
 split
 .split<;>(try dsimp only)<;>omega
 .exact h1
theorem ab1{s:BY}{i:Nat}(h:i<=s.size):(named s i).2<=s.size:=by
 have h1:=yV h;unfold named;dsimp only
 split
 .rename_i h2;have:=dY (s:=s) (i:=(name s i).2) AE;split
  .exact afO (Oh AE)
  .dsimp only;omega
 .exact h1
theorem xA{s:BY}{i:Nat}(_hi:i<s.size):i<(token s i).2:=by
 unfold token;split
 .rename_i h;exact Vp h
 .split
  .have:=aiM s (pk s i) (i+1);omega
  .split
   .have:=Oe s (i+1);dsimp only;omega
   .split
    .rename_i h;exact Vr h
    .split
     .dsimp only;omega
     .split
      .dsimp only;omega
      .split
       .have:=Oe s (i+1);dsimp only;omega
       .split
        .rename_i h;exact abZ h
        .dsimp only;omega
theorem xB{s:BY}{i:Nat}(hi:i<s.size):(token s i).2<=s.size:=by
 unfold token;split
 .exact Oh AE
 .split
  .exact aiN AE
  .split
   .exact yV AE
   .split
    .exact Vs AE
    .split
     .rename_i h;simp[kG]at h;have:=dY (s:=s) (i:=i+3) AE;dsimp only;omega
     .split
      .rename_i h;simp[kL]at h;have:=dY (s:=s) (i:=i+2) AE;dsimp only;omega
      .split
       .exact yV AE
       .split
        .exact ab1 AE
        .dsimp only;omega
section
inductive Nd where
 |mk (t:Tok) (kids:List Nd)
def Nd.t:Nd->Tok
 |.mk t _=>t
def Nd.kids:Nd->List Nd
 |.mk _ k=>k
@[simp] theorem Nd.Qq (t:Tok) (k:List Nd):(Nd.mk t k).t=t:=rfl
@[simp] theorem Nd.BK (t:Tok) (k:List Nd):(Nd.mk t k).kids=k:=rfl
def b1(n:UInt8):BY:=⟨#[n]⟩
def aA:BY:=⟨#[]⟩
def closing(t:Tok):BY:=if t.kind=11 then b1 41 else if t.kind=15 then(if t.word=b1 40 then b1 41 else if t.word=b1 91 then b1 93 else if t.word=b1 123 then b1 125 else aA) else aA
def au(t:Tok)(w:BY):Bool:=decide (t.kind=15)&&decide (t.word=w)
def dN(n:Nd)(w:BY):Bool:=au n.t w
structure dI(t:Tok):Prop where
 word:t.word.size<=4000000
 unit:t.unit.size<=1000
 num:t.kind=5->0<t.word.size
 dim:t.kind=7->0<t.unit.size
 sign:t.kind=15->t.word.size=1
 named:t.kind=4\/t.kind=10\/t.kind=11\/t.kind=14->0<t.word.size
def mY:Nat->BY->List Tok->List Nd×List Tok
 |0,_,ts=>([],ts)
 |_+1,_,[]=>([],[])
 |f+1,e,t::r=>
  if e≠aA/\au t e=true then([],r)
  else
   let a:=if closing t=aA then([],r) else mY f (closing t) r
   let b:=mY f e a.2
   (.mk t a.1::b.1,b.2)
def kids(e:BY)(ts:List Tok):List Nd×List Tok:=mY ts.length e ts
def inside(t:Tok)(r:List Tok):List Nd×List Tok:=if closing t=aA then([],r) else kids (closing t) r
def nodes(ts:List Tok):List Nd:=(kids aA ts).1
mutual
def eU:Nd->Nat
 |.mk t k=>if closing t=aA then 0 else depth k+1
def depth:List Nd->Nat
 |[]=>0
 |n::r=>max (eU n) (depth r)
end
def iH(n:Nd):Bool:=decide (n.t.kind=1)
def aH:List Nd->List Nd
 |[]=>[]
 |n::r=>if iH n=true then aH r else n::r
def lJ(l:List Nd):List Nd:=(aH l.reverse).reverse
def bare(l:List Nd):List Nd:=lJ (aH l)
def iZ(out:List (List Nd))(cur:List Nd):List Nd->List (List Nd)
 |[]=>out++[cur]
 |n::r=>if dN n (b1 44)=true then iZ (out++[cur]) [] r else iZ out (cur++[n]) r
def parted(l:List Nd):List (List Nd):=iZ [] [] l
inductive Simple where
 |mk (kind:Nat) (name how value:BY) (list:List (List (Nat×List Simple))) (place:Nat)
abbrev Step:=Nat×List Simple
abbrev bY:=List (List Step)
def Simple.of(kind:Nat)(name:BY):Simple:=.mk kind name aA aA [] 0
def gU(l:List Nd):Option (Nat×List Nd):=
 match aH l with
 |[]=>if l=[] then none else some (32,[])
 |n::r=>
  if dN n (b1 62)=true then some (62,aH r)
  else if dN n (b1 43)=true then some (43,aH r)
  else if dN n (b1 126)=true then some (126,aH r)
  else if (n::r).length<l.length then some (32,n::r) else none
def BL:BY:=⟨#[114,111,111,116]⟩
def uY:BY:=⟨#[102,105,114,115,116,45,99,104,105,108,100]⟩
def BM:BY:=⟨#[108,97,115,116,45,99,104,105,108,100]⟩
def Eh:BY:=⟨#[101,109,112,116,121]⟩
def nD:BY:=⟨#[110,111,116]⟩
def DY:BY:=⟨#[105,115]⟩
def nG:BY:=⟨#[110,116,104,45,99,104,105,108,100]⟩
def sZ:BY:=⟨#[111,100,100]⟩
def l7:BY:=⟨#[101,118,101,110]⟩
def oN:Nat->List UInt8->Option Nat
 |v,[]=>if v<=999 then some v else none
 |v,c::r=>if 48<=c.toNat/\c.toNat<=57/\v<=999 then oN (10*v+c.toNat-48) r else none
def placeOf(t:Tok):Option Nat:=
 if t.kind=14 then(if small t.word=l7 then some 1 else if small t.word=sZ then some 0 else none)
 else if t.kind=5/\fG (pk t.word 0)=true then(oN 0 t.word.data.toList).map (· + 2)
 else none
def gG(l:List Nd):Option Simple:=
 match l with
 |[]=>none
 |n::r=>
  if n.t.kind≠14 then none
  else
   let l1:=bare r
   match l1 with
   |[]=>some (Simple.of 91 n.t.word)
   |m::r1=>
    if m.t.kind≠15 then none
    else
     let h:=m.t.word=b1 126\/m.t.word=b1 94\/m.t.word=b1 36\/m.t.word=b1 42
     let l2:=if h then r1 else m::r1
     match l2 with
     |[]=>none
     |q::r2=>
      match bare r2 with
      |[v]=>if dN q (b1 61)=true/\(v.t.kind=14\/v.t.kind=2) then some (.mk 91 n.t.word ((if h then m.t.word else aA)++b1 61) v.t.word [] 0) else none
      |_=>none
section
variable (rec:List Nd->Option bY)
def bM(n:Nd):Option Simple:=
 let w:=small n.t.word
 if n.t.kind=14 then(if w=BL\/w=uY\/w=BM\/w=Eh then some (Simple.of 58 w) else none)
 else if n.t.kind≠11 then none
 else if w=nD\/w=DY then(rec n.kids).map (fun l=>.mk 58 w aA aA l 0)
 else if w=nG then
  (match bare n.kids with
   |[v]=>(placeOf v.t).map (fun p=>.mk 58 w aA aA [] p)
   |_=>none)
 else none
def bZ:List Simple->List Nd->Option (List Simple×List Nd)
 |acc,[]=>some (acc,[])
 |acc,[n]=>
  if n.t.kind=4 then some (acc++[Simple.of 35 n.t.word],[])
  else if dN n (b1 46)=true then none
  else if dN n (b1 91)=true then(match gG (bare n.kids)with|none=>none|some s=>some (acc++[s],[]))
  else if dN n (b1 58)=true then none
  else some (acc,[n])
 |acc,n::m::r=>
  if n.t.kind=4 then bZ (acc++[Simple.of 35 n.t.word]) (m::r)
  else if dN n (b1 46)=true then(if m.t.kind=14 then bZ (acc++[Simple.of 46 m.t.word]) r else none)
  else if dN n (b1 91)=true then(match gG (bare n.kids)with|none=>none|some s=>bZ (acc++[s]) (m::r))
  else if dN n (b1 58)=true then(match bM rec m with|none=>none|some s=>bZ (acc++[s]) r)
  else some (acc,n::m::r)
def kP(l:List Nd):List Simple×List Nd:=
 match l with
 |[]=>([],[])
 |n::r=>if n.t.kind=14 then([Simple.of 116 (small n.t.word)],r) else if dN n (b1 42)=true then([Simple.of 116 aA],r) else([],n::r)
def aZ(l:List Nd):Option (List Simple×List Nd):=bZ rec (kP l).1 (kP l).2
def bD:Nat->Nat->List Nd->Option (List Step)
 |0,_,_=>none
 |f+1,b,l=>
  match aZ rec l with
  |none=>none
  |some (all,r)=>
   if all=[] then none
   else if r=[] then some [(b,all)]
   else match gU r with
    |none=>none
    |some (c,r')=>(bD f c r').map (fun x=>(b,all)::x)
def je(l:List Nd):Option (List Step):=bD rec (l.length+1) 0 l
def fZ:List (List Nd)->Option bY
 |[]=>some []
 |p::r=>match je rec (bare p)with|none=>none|some s=>(fZ r).map (fun x=>s::x)
def oz(l:List Nd):Option bY:=if 8<(parted l).length then none else fZ rec (parted l)
end
def lM:Nat->List Nd->Option bY
 |0,l=>oz (fun _=>none) l
 |f+1,l=>oz (lM f) l
def Ot(l:List Nd):Option bY:=lM (depth l) l
structure Elem where
 parent:Int
 tag:BY
 id:BY
 classes:List BY
 attrs:List (BY×BY)
abbrev aI:=List Elem
def oC(c:UInt8):Bool:=(decide (97<=c.toNat)&&decide (c.toNat<=122))||(decide (48<=c.toNat)&&decide (c.toNat<=57))||c==45
def nameP(s:BY):Bool:=s.data.toList.all oC&&decide (s.size<=12)
def dK(s:BY):Bool:=s.data.toList.all (fun c=>oC c||c==32)&&decide (s.size<=24)
def xC(i:Nat)(x:Elem):Bool:=
 nameP x.tag&&!decide (x.tag=aA)&&nameP x.id&&decide (x.classes.length<=4)&&decide (x.attrs.length<=4) &&
 (if i=0 then x.parent == -1 else decide (0<=x.parent)&&decide (x.parent<i)) &&
 x.classes.all (fun c=>nameP c&&!decide (c=aA))&&x.attrs.all (fun a=>nameP a.1&&dK a.2&&!decide (a.1=aA))
def gI:Nat->aI->Bool
 |_,[]=>true
 |i,x::r=>xC i x&&gI (i+1) r
def iL(p:aI):Bool:=decide (1<=p.length)&&decide (p.length<=30)&&gI 0 p
def parentOf(p:aI)(e:Nat):Int:=(p[e]?.map Elem.parent).getD (-1)
def gJ(p:aI)(q:Int):Nat->List Nat
 |0=>[]
 |k+1=>if parentOf p k=q then gJ p q k++[k] else gJ p q k
def ahead(p:aI)(e:Nat):List Nat:=gJ p (parentOf p e) e
def before(p:aI)(e:Nat):Int:=match (ahead p e).getLast? with|none=>-1|some k=>(k:Int)
def qo(p:aI)(e:Nat):Nat:=(ahead p e).length+1
def lastB(p:aI)(e:Nat):Bool:=(List.range p.length).all (fun k=>!(decide (e<k)&&parentOf p k==parentOf p e))
def aiP(p:aI)(e:Nat):Bool:=(List.range p.length).all (fun k=>parentOf p k != (e:Int))
def Vt:BY->List UInt8->List BY
 |w,[]=>[w]
 |w,c::r=>if aO c.toNat=true then w::Vt aA r else Vt (w++b1 c) r
def aiQ(s v:BY):Bool:=!decide (v=aA)&&(Vt aA s.data.toList).any (fun c=>decide (c=v))
def ab2(s v:BY)(i:Nat):Bool:=decide (i+v.size<=s.size)&&decide (s.extract i (i+v.size)=v)
def akF(s v:BY):Bool:=(List.range (s.size+1)).any (ab2 s v)
def fits(how x v:BY):Bool:=
 if how=aA then true
 else if how=b1 61 then decide (x=v)
 else if how=⟨#[126,61]⟩ then aiQ x v
 else !decide (v=aA)&&(if how=⟨#[94,61]⟩ then ab2 x v 0 else if how=⟨#[36,61]⟩ then decide (v.size<=x.size)&&ab2 x v (x.size-v.size) else akF x v)
def aia(name how v:BY):List (BY×BY)->Bool
 |[]=>false
 |a::r=>if a.1=name then fits how a.2 v else aia name how v r
def afQ(kind:Nat)(name how value:BY)(place:Nat)(p:aI)(e:Nat)(inn:Bool):Bool:=
 match p[e]? with
 |none=>false
 |some x=>
  if kind=116 then decide (name=aA)||decide (name=small x.tag)
  else if kind=35 then !decide (x.id=aA)&&decide (x.id=name)
  else if kind=46 then x.classes.any (fun c=>decide (c=name))
  else if kind=91 then aia name how value x.attrs
  else if name=BL then e==0
  else if name=uY then qo p e==1
  else if name=BM then lastB p e
  else if name=Eh then aiP p e
  else if name=nG then(if 2<=place then qo p e==place-2 else qo p e%2==1-place)
  else if name=nD then !inn
  else inn
def akG(p:aI)(by_:Nat)(was:Nat->Bool):Nat->Nat->Bool
 |0,_=>false
 |f+1,e=>
  let e':=if by_=32\/by_=62 then parentOf p e else before p e
  if e'<0 then false
  else if was e'.toNat=true then true
  else if by_=62\/by_=43 then false
  else akG p by_ was f e'.toNat
def led(p:aI)(by_:Nat)(was:Nat->Bool)(e:Nat):Bool:=akG p by_ was (e+1) e
mutual
def onS(p:aI):Simple->Nat->Bool
 |.mk kind name how value list place,e=>afQ kind name how value place p e (onL p list e)
def Me(p:aI):List Simple->Nat->Bool
 |[],_=>true
 |s::r,e=>onS p s e&&Me p r e
def onC(p:aI):List (Nat×List Simple)->Option (Nat->Bool)->Nat->Bool
 |[],was,e=>(was.getD (fun _=>false)) e
 |(b,all)::r,was,e=>onC p r (some (fun k=>(match was with|none=>true|some f=>led p b f k)&&Me p all k)) e
def onL(p:aI):List (List (Nat×List Simple))->Nat->Bool
 |[],_=>false
 |c::r,e=>onC p c none e||onL p r e
end
end
section
def cat:List BY->BY
 |[]=>aA
 |a::r=>a++cat r
structure Rule where
 at_:Option BY
 head:List Nd
 body:Option (List Nd)
def bG(stop:Nd->Bool):List Nd->List Nd×Option Nd×List Nd
 |[]=>([],none,[])
 |n::r=>if stop n=true then([],some n,r) else let x:=bG stop r;(n::x.1,x.2)
def aS(n:Nd):Bool:=dN n (b1 59)
def aK(n:Nd):Bool:=dN n (b1 123)
def gV:Option Nd->Option (List Nd)
 |none=>none
 |some b=>if aK b=true then some b.kids else none
def oG(zM:Bool)(n:Nd):Bool:=iH n||(zM&&(decide (n.t.kind=8)||decide (n.t.kind=9)))
def fM:Nat->Bool->List Nd->List Rule
 |0,_,_=>[]
 |_+1,_,[]=>[]
 |f+1,sh,n::r=>
  if oG sh n=true then fM f sh r
  else if n.t.kind=10 then
   let c:=bG (fun m=>aS m||aK m) r
   ⟨some n.t.word,c.1,gV c.2.1⟩::fM f sh c.2.2
  else
   let c:=bG aK (n::r)
   match c.2.1 with
   |none=>[]
   |some b=>⟨none,c.1,some b.kids⟩::fM f sh c.2.2
def rules(sh:Bool)(l:List Nd):List Rule:=fM l.length sh l
structure Dec where
 prop:BY
 val:List Nd
 imp:Bool
def custom(p:BY):Bool:=decide (pk p 0=45)&&decide (pk p 1=45)
def jM(w:BY):BY:=if custom w=true then w else small w
def jw:BY:=⟨#[105,109,112,111,114,116,97,110,116]⟩
def ru(n:Nd)(w:BY):Bool:=decide (n.t.kind=14)&&decide (small n.t.word=w)
def gW(v:List Nd):List Nd×Bool:=
 match v.getLast? with
 |none=>(v,false)
 |some x=>
  if ru x jw=true then
   (match (bare v.dropLast).getLast? with
    |none=>(v,false)
    |some y=>if dN y (b1 33)=true then(bare (bare v.dropLast).dropLast,true) else(v,false))
  else(v,false)
def iI(l:List Nd):Option Dec:=
 match l with
 |[]=>none
 |n::r=>
  if n.t.kind≠14 then none
  else match bare r with
   |[]=>none
   |c::q=>if dN c (b1 58)=true then some ⟨jM n.t.word,(gW (bare q)).1,(gW (bare q)).2⟩ else none
def fF:Nat->List Nd->List Dec
 |0,_=>[]
 |_+1,[]=>[]
 |f+1,n::r=>
  if iH n||aS n then fF f r
  else if n.t.kind=10 then fF f (bG (fun m=>aS m||aK m) r).2.2
  else
   let c:=bG aS (n::r)
   match iI c.1 with
   |none=>fF f c.2.2
   |some d=>d::fF f c.2.2
def decls(l:List Nd):List Dec:=fF l.length l
def hexD(n:Nat):UInt8:=if n<10 then UInt8.ofNat (48+n) else UInt8.ofNat (87+n)
def KU(c:UInt8):BY:=⟨#[92,hexD (c.toNat/16),hexD (c.toNat%16),32]⟩
def oU(c:UInt8):Bool:=(decide (97<=c.toNat)&&decide (c.toNat<=122))||(decide (65<=c.toNat)&&decide (c.toNat<=90))
def oV(c:UInt8):Bool:=decide (48<=c.toNat)&&decide (c.toNat<=57)
def dZ(w:BY)(i:Nat)(c:UInt8):Bool:=
 if oV c=true then !(i==0||(i==1&&pk w 0==45))
 else if c=45 then !(w.size==1)
 else oU c||c==95
def BP(ok:Nat->UInt8->Bool):Nat->List UInt8->BY
 |_,[]=>aA
 |i,c::r=>(if ok i c=true then b1 c else KU c)++BP ok (i+1) r
def dP(w:BY):BY:=BP (dZ w) 0 w.data.toList
def Fe(w:BY):BY:=BP (fun i c=>dZ w i c&&!(i==0&&(c==101||c==69))) 0 w.data.toList
def jO(c:UInt8):Bool:=decide (32<=c.toNat)&&decide (c.toNat<=126)&&!(c==34||c==92||c==60||c==62)
def aiR:BY:=b1 34
def xG(w:BY):BY:=aiR++(BP (fun _ c=>jO c) 0 w.data.toList++aiR)
def xH(c:UInt8):Bool:=oU c||oV c||c==46||c==47||c==58||c==45
def akI:BY:=⟨#[117,114,108,40]⟩
def Hw(w:BY):BY:=akI++(BP (fun _ c=>xH c) 0 w.data.toList++b1 41)
def aib:BY:=⟨#[60,33,45,45]⟩
def ab7:BY:=⟨#[45,45,62]⟩
def aic:BY:=⟨#[34,10]⟩
def aie:BY:=⟨#[117,114,108,40,40,41]⟩
def og:BY:=⟨#[47,42,42,47]⟩
def Yt(w:BY):Bool:=decide (w=b1 44)||decide (w=b1 58)||decide (w=b1 59)||decide (w=b1 41)||decide (w=b1 93)||decide (w=b1 125)
def oH(t:Tok):Bool:=decide (t.kind=1)||(decide (t.kind=15)&&Yt t.word)
def parts(a b:Tok):Bool:=!oH a&&!oH b&&decide (closing a=aA)&&!au b (b1 91)&&!au b (b1 123)
def Qy(t:Tok)(inn:BY):BY:=
 if t.kind=1 then b1 32
 else if t.kind=2 then xG t.word
 else if t.kind=3 then aic
 else if t.kind=4 then b1 35++dP t.word
 else if t.kind=6 then t.word++b1 37
 else if t.kind=7 then t.word++Fe t.unit
 else if t.kind=8 then aib
 else if t.kind=9 then ab7
 else if t.kind=10 then b1 64++dP t.word
 else if t.kind=11 then dP t.word++(b1 40++(inn++b1 41))
 else if t.kind=12 then Hw t.word
 else if t.kind=13 then aie
 else if t.kind=14 then dP t.word
 else if t.kind=15 then t.word++(inn++closing t)
 else t.word
def Aj(a:Option Tok)(b:Tok):BY:=match a with|none=>aA|some a=>if parts a b=true then og else aA
def Ak(a:Option Tok)(b:Tok):Bool:=match a with|none=>false|some a=>decide (a.kind=1)&&decide (b.kind=1)
mutual
def iM:Nd->BY
 |.mk t k=>Qy t (l9 none k)
def l9:Option Tok->List Nd->BY
 |_,[]=>aA
 |a,n::r=>(if Ak a n.t=true then aA else Aj a n.t++iM n)++l9 (some n.t) r
end
def written(l:List Nd):BY:=l9 none l
structure Wt where
 a:Nat
 b:Nat
 c:Nat
def Wt.zero:Wt:=⟨0,0,0⟩
def Wt.add(x y:Wt):Wt:=⟨x.a+y.a,x.b+y.b,x.c+y.c⟩
def Wt.less(x y:Wt):Bool:=if x.a≠y.a then decide (x.a<y.a) else if x.b≠y.b then decide (x.b<y.b) else decide (x.c<y.c)
def Wt.most(x y:Wt):Wt:=if x.less y=true then y else x
mutual
def wtS:Simple->Wt
 |.mk kind name _ _ list _=>
  if kind=35 then⟨1,0,0⟩
  else if kind=116 then(if name=aA then Wt.zero else⟨0,0,1⟩)
  else if kind=58/\(name=nD\/name=DY) then wtL Wt.zero list
  else⟨0,1,0⟩
def wtA:List Simple->Wt
 |[]=>Wt.zero
 |s::r=>(wtS s).add (wtA r)
def wtT:Nat×List Simple->Wt
 |(_,all)=>wtA all
def wtC:List (Nat×List Simple)->Wt
 |[]=>Wt.zero
 |t::r=>(wtT t).add (wtC r)
def wtL:Wt->List (List (Nat×List Simple))->Wt
 |best,[]=>best
 |best,c::r=>wtL (best.most (wtC c)) r
end
abbrev akJ:=bY×List Dec
def fitsW(p:aI)(e:Nat):Option Wt->bY->Option Wt
 |w,[]=>w
 |w,c::r=>fitsW p e (if onC p c none e=true then(match w with|none=>some (wtC c)|some x=>some (x.most (wtC c))) else w) r
structure jS where
 imp:Bool
 wt:Wt
 val:List Nd
def apZ(d:Dec)(w:Wt):Option jS->Bool
 |none=>true
 |some b=>if d.imp≠b.imp then d.imp else !(w.less b.wt)
def ap0(q:BY)(w:Wt):Option jS->List Dec->Option jS
 |best,[]=>best
 |best,d::r=>ap0 q w (if decide (d.prop=q)&&apZ d w best then some ⟨d.imp,w,d.val⟩ else best) r
def apL(p:aI)(e:Nat)(q:BY):Option jS->List akJ->Option jS
 |best,[]=>best
 |best,r::rs=>apL p e q (match fitsW p e none r.1 with|none=>best|some w=>ap0 q w best r.2) rs
def ao7(p:aI)(rs:List akJ)(e:Nat)(q:BY):Option jS:=apL p e q none rs
def amm:BY:=⟨#[118,97,114]⟩
def jU:BY:=⟨#[105,110,104,101,114,105,116]⟩
def lN:BY:=⟨#[117,110,115,101,116]⟩
def nInitial:BY:=⟨#[105,110,105,116,105,97,108]⟩
def ab8:BY:=⟨#[99,111,108,111,114]⟩
def aif:BY:=⟨#[102,111,110,116,45,115,105,122,101]⟩
def Yu:BY:=⟨#[113,117,111,116,101,115]⟩
def isWord(v:List Nd)(w:BY):Bool:=match v with|[n]=>ru n w|_=>false
mutual
def Qz(g:Tok->Bool):Nd->Bool
 |.mk t k=>g t||jg g k
def jg(g:Tok->Bool):List Nd->Bool
 |[]=>false
 |n::r=>Qz g n||jg g r
end
def zB(t:Tok):Bool:=decide (t.kind=3)||decide (t.kind=13)
def kD(t:Tok):Bool:=decide (t.kind=11)&&decide (small t.word=amm)
def varOf(k:List Nd):Option (BY×Option (List Nd)):=
 match aH k with
 |[]=>none
 |n::r=>
  if n.t.kind=14/\custom n.t.word=true then
   (match aH r with
    |[]=>some (n.t.word,none)
    |c::q=>if dN c (b1 44)=true then some (n.t.word,some (bare q)) else none)
  else none
mutual
def apM:Nd->List BY
 |.mk t k=>(if kD t=true then(match varOf k with|some (w,_)=>[w]|none=>[]) else [])++aok k
def aok:List Nd->List BY
 |[]=>[]
 |n::r=>apM n++aok r
end
def handed(q:BY):Bool:=custom q||decide (q=ab8)||decide (q=aif)||decide (q=Yu)
def apJ:List BY->List BY->List BY
 |met,[]=>met
 |met,n::r=>apJ (if met.contains n=true then met else met++[n]) r
def ao8(nb:BY->List BY)(q:BY):Nat->Nat->List BY->Bool
 |0,_,_=>false
 |f+1,i,met=>match met[i]? with
  |none=>false
  |some n=>if n=q then true else ao8 nb q f (i+1) (apJ met (nb n))
def ap1(s:BY):Nd:=.mk (Tok.w 99 s) []
def tC(h:Nd->Option Nd):List Nd->Option (List Nd)
 |[]=>some []
 |n::r=>match h n with|none=>none|some m=>(tC h r).map (fun x=>m::x)
def apN(g:BY->BY):Nat->Nd->Option Nd
 |0,n=>some (.mk n.t [])
 |f+1,n=>
  if kD n.t=true then
   (match varOf n.kids with
    |none=>none
    |some (w,fb)=>
     if g w≠aA then some (ap1 (g w))
     else match fb with
      |none=>none
      |some b=>(tC (apN g f) b).map (fun x=>ap1 (written x)))
  else(tC (apN g f) n.kids).map (fun k=>.mk n.t k)
def ap9(g:BY->BY)(l:List Nd):Option (List Nd):=tC (apN g (depth l)) l
section
variable (p:aI) (rs:List akJ)
def aoK(e:Nat)(q:BY):List BY:=match ao7 p rs e q with|none=>[]|some w=>aok w.val
def allNames:List BY:=rs.flatMap (fun r=>r.2.flatMap (fun d=>aok d.val))
def turns(e:Nat)(q:BY):Bool:=ao8 (aoK p rs e) q (2*(allNames rs).length+1) 0 (aoK p rs e q)
def apO(rec:Nat->BY->BY)(e:Nat)(q:BY):BY:=
 let par:=if parentOf p e<0 then aA else rec (parentOf p e).toNat q
 let down:=if handed q=true then par else aA
 match ao7 p rs e q with
 |none=>down
 |some w=>
  if isWord w.val jU=true then par
  else if isWord w.val nInitial=true then aA
  else if isWord w.val lN||jg zB w.val then down
  else if jg kD w.val=false then written w.val
  else if custom q&&turns p rs e q then aA
  else match ap9 (rec e) w.val with
   |none=>down
   |some l=>if (written l).size<=400 then written l else down
def ao9:Nat->Nat->BY->BY
 |0,_,_=>aA
 |f+1,e,q=>apO p rs (ao9 f) e q
def comes(e:Nat)(q:BY):BY:=ao9 p rs ((e+1)*((allNames rs).length+2)) e q
end
def bH(s:BY):List Nd:=nodes (toks (clean s))
structure aF where
 root:BY
 props:List BY
 aJ:List BY
 ats:List BY
 aU:Bool
 texts:Bool
def jh(c:UInt8):Bool:=decide (97<=c.toNat)&&decide (c.toNat<=122)
def gK(s:BY):Bool:=s.data.toList.all (fun c=>jh c||c==45)&&decide (1<=s.size)&&decide (s.size<=30)
def qp(p:aF):Bool:=
 p.root.data.toList.all jh&&decide (p.root.size<=12) &&
 (decide (p.props.length<=20)&&p.props.all (fun s=>gK s&&!(pk s 0==45))) &&
 (decide (p.aJ.length<=20)&&p.aJ.all gK)&&(decide (p.ats.length<=20)&&p.ats.all gK)
def vk(w:BY):Bool:=decide (w=b1 43)||decide (w=b1 45)||decide (w=b1 42)||decide (w=b1 47)||decide (w=b1 46)||decide (w=b1 44)||decide (w=b1 37)||decide (w=b1 61)||decide (w=b1 58)
def oI(p:aF)(t:Tok):Bool:=
 if t.kind=3\/t.kind=12\/t.kind=13\/t.kind=10\/t.kind=8\/t.kind=9 then false
 else if t.kind=15 then !decide (closing t=aA)||vk t.word
 else if t.kind=2 then p.texts
 else if t.kind=11 then p.aJ.contains (small t.word)
 else true
def eH(p:aF)(l:List Nd):Bool:=!jg (fun t=>!oI p t) l
structure ZW where
 dO:Nat->BY
 pos:∀n,n<=1000->0<(dO n).size
 sz:∀n,n<=1000->(dO n).size<=100
 mW:∀n,n<=999->∀c∈(dO n).data.toList,fG (c.toNat:Int)=true
abbrev bV:=Inhabited ZW
def H7[bV](n:Nat):BY:=(default:ZW).dO n
def tV(b:Nat):BY:=if b=32 then b1 32 else if b=62\/b=43\/b=126 then b1 32++(b1 (UInt8.ofNat b)++b1 32) else aA
def zN(name how value:BY):BY:=if how=aA then b1 91++(dP name++b1 93) else b1 91++(dP name++(how++(xG value++b1 93)))
mutual
def Am[bV]:Simple->BY
 |.mk kind name how value list place=>
  if kind=116 then(if name=aA then b1 42 else dP name)
  else if kind=35 then b1 35++dP name
  else if kind=46 then b1 46++dP name
  else if kind=91 then zN name how value
  else if name=nD\/name=DY then b1 58++(name++(b1 40++(jV aA list++b1 41)))
  else if name=nG then b1 58++(name++(b1 40++((if place=0 then sZ else if place=1 then l7 else H7 (place-2))++b1 41)))
  else b1 58++name
def vw[bV]:List Simple->BY
 |[]=>aA
 |s::r=>Am s++vw r
def ab9[bV]:Nat×List Simple->BY
 |(b,all)=>tV b++vw all
def dW[bV]:List (Nat×List Simple)->BY
 |[]=>aA
 |t::r=>ab9 t++dW r
def jV[bV](ahead:BY):List (List (Nat×List Simple))->BY
 |[]=>aA
 |c::r=>ahead++(dW c++qC ahead r)
def qC[bV](ahead:BY):List (List (Nat×List Simple))->BY
 |[]=>aA
 |c::r=>b1 44++(ahead++(dW c++qC ahead r))
end
def ZX:BY:=⟨#[33,105,109,112,111,114,116,97,110,116]⟩
def kR(p:aF)(d:Dec):Bool:=(if custom d.prop=true then p.aU else p.props.contains d.prop)&&eH p d.val&&!d.val.isEmpty
def jW(d:Dec):BY:=dP d.prop++(b1 58++(written d.val++(if d.imp=true then ZX else aA)))
def jX(sep:BY):List BY->BY
 |[]=>aA
 |[a]=>a
 |a::b::r=>a++(sep++jX sep (b::r))
def tX(p:aF)(l:List Nd):BY:=jX (b1 59) (((decls l).filter (kR p)).map jW)
def Vw(p:aF):BY:=if p.root=aA then aA else b1 46++(p.root++b1 32)
def H8[bV](p:aF)(r:Rule)(b:List Nd):BY:=
 match Ot r.head with
 |none=>aA
 |some s=>if tX p b=aA then aA else jV (Vw p) s++(b1 123++(tX p b++b1 125))
def qE(h:List Nd):BY:=if h=[] then aA else b1 32++written h
def H9[bV](p:aF)(rec:List Nd->BY)(r:Rule):BY:=
 match r.at_,r.body with
 |some w,some b=>
  if p.ats.contains (small w)=true/\eH p (bare r.head)=true then
   (if rec b=aA then aA else b1 64++(dP (small w)++(qE (bare r.head)++(b1 123++(rec b++b1 125)))))
  else aA
 |none,some b=>H8 p r b
 |_,none=>aA
def tY[bV](p:aF):Nat->Bool->List Nd->BY
 |0,sh,l=>cat ((rules sh l).map (H9 p (fun _=>aA)))
 |f+1,sh,l=>cat ((rules sh l).map (H9 p (tY p f false)))
def dR[bV](s:BY)(p:aF):BY×Int:=
 if qp p=false then(aA,5)
 else if 600<s.size then(aA,1)
 else if 8<depth (bH s) then(aA,2)
 else(tY p (depth (bH s)) true (bH s),0)
end
def At(s:BY)(i:Nat)(l:List UInt8):Prop:=i<=s.size/\s.data.toList.drop i=l
def jy:List UInt8->Int
 |[]=>-1
 |c::_=>(c.toNat:Int)
theorem At.size{s:BY}{i:Nat}{l:List UInt8}(h:At s i l):i+l.length=s.size:=by have h1:=congrArg List.length h.2;have h2:=h.1;have h3:s.data.toList.length=s.size:=rfl;rw[List.length_drop,h3]at h1;omega
theorem At.zero(s:BY):At s 0 s.data.toList:=⟨Nat.zero_le _,rfl⟩
theorem At.app{s:BY}{i:Nat}{a l:List UInt8}(h:At s i (a++l)):At s (i+a.length) l:=by have h1:=h.size;refine⟨by simp at h1;omega,?_⟩;rw[<-List.drop_drop,h.2];simp
theorem At.tl{s:BY}{i:Nat}{c:UInt8}{l:List UInt8}(h:At s i (c::l)):At s (i+1) l:=At.app (a:=[c]) h
theorem At.hd{s:BY}{i:Nat}{l:List UInt8}(h:At s i l):pk s i=jy l:=by
 have h1:=h.size;cases l with
 |nil=>exact oK (by simp at h1;omega)
 |cons c r=>
  have hi:i<s.size:=by simp at h1;omega
  rw[zK hi];have h2:s.data.toList[i]?=some c:=by have:=congrArg (fun x=>x[0]?) h.2;simpa using this
  have h3:s.data.toList[i]'hi=c:=(List.getElem?_eq_some_iff.1 h2).2;show((s.data[i]'hi).toNat:Int)=_;rw[<-Array.getElem_toList];rw[h3];rfl
theorem At.lt{s:BY}{i:Nat}{c:UInt8}{l:List UInt8}(h:At s i (c::l)):i<s.size:=by have:=h.size;simp at this;omega
theorem At.one{s:BY}{i:Nat}{c:UInt8}{l:List UInt8}(h:At s i (c::l)):one s i=b1 c:=by
 have h1:=h.size;unfold Sp.one b1;apply ByteArray.ext
 rw[ByteArray.data_extract];apply Array.toList_inj.1
 rw[Array.toList_extract,List.extract_eq_take_drop,h.2];simp
theorem kV(a b:BY):(a++b).data.toList=a.data.toList++b.data.toList:=by simp
def WY(c:UInt8):List UInt8:=[92,hexD (c.toNat/16),hexD (c.toNat%16),32]
def ny(ok:Nat->UInt8->Bool):Nat->List UInt8->List UInt8
 |_,[]=>[]
 |i,c::r=>(if ok i c=true then [c] else WY c)++ny ok (i+1) r
theorem OQ(ok:Nat->UInt8->Bool):∀(l:List UInt8) (i:Nat),(BP ok i l).data.toList=ny ok i l
 |[],_=>rfl
 |c::r,i=>by unfold BP ny;rw[kV,OQ ok r (i+1)];split<;>rfl
theorem rO(ok:Nat->UInt8->Bool):∀(l:List UInt8) (i:Nat),l.length<=(ny ok i l).length
 |[],_=>Nat.le_refl _
 |c::r,i=>by have:=rO ok r (i+1);unfold ny;split<;>simp[WY]<;>omega
theorem adp:∀n,n<16->xk ((hexD n).toNat:Int)=(n:Int):=by decide
theorem YU:∀n,n<16->((hexD n).toNat:Int)≠10:=by decide
def zq(c:UInt8):UInt8:=if c.toNat=0 then 63 else c
theorem Gz{s:BY}{i:Nat}{c:UInt8}{r:List UInt8}(h:At s i (WY c++r)):esc s i=(b1 (zq c),i+4)/\kY s i=true:=by
 have hc:=c.toNat_lt;have h0:At s i (92::hexD (c.toNat/16)::hexD (c.toNat%16)::32::r):=h;have h1:=h0.tl;have h2:=h1.tl;have h3:=h2.tl;have e0:pk s i=92:=h0.hd;have e1:pk s (i+1)=((hexD (c.toNat/16)).toNat:Int):=h1.hd;have e2:pk s (i+1+1)=((hexD (c.toNat%16)).toNat:Int):=h2.hd;have e3:pk s (i+1+1+1)=32:=h3.hd;have d1:=adp (c.toNat/16) AE;have d2:=adp (c.toNat%16) AE;have hF:tJ s 6 (i+1) 0=(c.toNat,i+1+1+1):=by
  unfold tJ;rw[e1,d1,if_pos (by omega)];unfold tJ;rw[e2,d2,if_pos (by omega)];unfold tJ;rw[e3,if_neg (by decide)];congr 1
  simp;omega
 refine⟨?_,?_⟩
 .unfold esc;simp only[hF];rw[if_neg (by omega),e3,show aO 32=true by decide];refine Prod.ext ?_ rfl;show(if 1<=c.toNat/\c.toNat<=255 then E8 c.toNat else Ec)=b1 (zq c);unfold zq;by_cases hz:c.toNat=0
  .rw[if_neg (by omega),if_pos hz];rfl
  .rw[if_pos (by omega),if_neg hz];unfold E8 b1;rw[show UInt8.ofNat c.toNat=c from UInt8.ofNat_toNat]
 .unfold kY;rw[e0,e1];have:=YU (c.toNat/16) AE;simp[this]
def uG(r:List UInt8):Prop:=lX (jy r)=false/\jy r≠92
theorem OT(acc:BY)(c:UInt8)(l:List UInt8):acc++b1 c++(⟨l.toArray⟩:BY)=acc++⟨(c::l).toArray⟩:=by
 apply ByteArray.ext
 apply Array.toList_inj.1
 simp[b1]
theorem zi{s:BY}(ok:Nat->UInt8->Bool)(hok:∀i c,ok i c=true->lX (c.toNat:Int)=true)(hz:∀i c,ok i c=true->zq c=c){r:List UInt8}(hr:uG r):∀(l:List UInt8) (j f i:Nat) (acc:BY),At s i (ny ok j l++r)->l.length<=f->iK s f i acc=(acc++⟨(l.map zq).toArray⟩,i+(ny ok j l).length)
 |[],j,f,i,acc,h,_=>by
  have e:pk s i=jy r:=At.hd (l:=r) h;have ea:acc++(⟨(([]:List UInt8).map zq).toArray⟩:BY)=acc:=by apply ByteArray.ext;simp
  cases f with
  |zero=>unfold iK ny;rw[ea];rfl
  |succ f=>
   unfold iK;rw[e,hr.1];have:kY s i=false:=by unfold kY;rw[e];simp[hr.2]
   rw[this,ea];rfl
 |c::l,j,f,i,acc,h,hf=>by
  obtain⟨f,rfl⟩:∃g,f=g+1:=⟨f-1,by simp at hf;omega⟩;have hf':l.length<=f:=by simp at hf;omega
  unfold ny at h⊢;by_cases ho:ok j c=true
  .rw[if_pos ho]at h⊢;have h0:At s i (c::(ny ok (j+1) l++r)):=h;have e:pk s i=(c.toNat:Int):=h0.hd;unfold iK;rw[e,hok j c ho,if_pos rfl,h0.one,zi ok hok hz hr l (j+1) f (i+1) _ h0.tl hf'];rw[OT,List.map_cons,hz j c ho];simp;omega
  .rw[if_neg ho]at h⊢;rw[List.append_assoc]at h;have he:=Gz h;have e:pk s i=92:=At.hd (l:=92::_) h;unfold iK;rw[e,if_neg (by decide),he.2,if_pos rfl,he.1,zi ok hok hz hr l (j+1) f (i+4) _ (At.app h) hf'];rw[OT,List.map_cons];simp[WY];omega
theorem SK{c:UInt8}(h:oU c=true):kK (c.toNat:Int)=true:=by unfold oU at h;unfold kK;simp at h⊢;omega
theorem nS{w:BY}{i:Nat}{c:UInt8}(h:dZ w i c=true):kK (c.toNat:Int)=true\/(oV c=true/\i≠0/\¬(i=1/\pk w 0=45))\/(c=45/\w.size≠1):=by
 unfold dZ at h;split at h
 .rename_i hd;right;left;simp at h;exact⟨hd,h.1,fun hh=>h.2.elim (fun a=>a hh.1) (fun a=>a hh.2)⟩
 .split at h
  .rename_i hc;right;right;simp at h;exact⟨hc,h⟩
  .left;simp at h;rcases h with h|h
   .exact SK h
   .subst h;decide
theorem yu{w:BY}{i:Nat}{c:UInt8}(h:dZ w i c=true):lX (c.toNat:Int)=true:=by
 unfold lX;rcases nS h with h|h|h
 .rw[h];rfl
 .have:=h.1;unfold oV at this;unfold fG;simp at this⊢;omega
 .rw[h.1];decide
theorem Nu{w:BY}{i:Nat}{c:UInt8}(h:dZ w i c=true):zq c=c:=by have:=yu h;unfold zq;rw[if_neg];intro hz;rw[hz]at this;revert this;decide
def gZ(w:BY):List UInt8:=ny (dZ w) 0 w.data.toList
theorem pR(w:BY):(dP w).data.toList=gZ w:=OQ _ _ _
def oJ(w:BY):List UInt8:=ny (fun i c=>dZ w i c&&!(i==0&&(c==101||c==69))) 0 w.data.toList
theorem agE(w:BY):(Fe w).data.toList=oJ w:=OQ _ _ _
def vZ(w:BY):BY:=⟨(w.data.toList.map zq).toArray⟩
theorem ED{s w:BY}{i:Nat}{r:List UInt8}(hr:uG r)(h:At s i (gZ w++r)):name s i=(vZ w,i+(gZ w).length):=by
 have hl:=rO (dZ w) w.data.toList 0;have hs:=h.size;unfold name;rw[zi (dZ w) (fun _ _ h=>yu h) (fun _ _ h=>Nu h) hr w.data.toList 0 s.size i _ h (by rw[List.length_append]at hs;unfold gZ at hs;omega)];refine Prod.ext ?_ rfl;apply ByteArray.ext
 simp[vZ]
theorem aaK{s w:BY}{i:Nat}{r:List UInt8}(hr:uG r)(h:At s i (oJ w++r)):name s i=(vZ w,i+(oJ w).length):=by
 have hl:=rO (fun i c=>dZ w i c&&!(i==0&&(c==101||c==69))) w.data.toList 0;have hs:=h.size;unfold name;rw[zi (fun i c=>dZ w i c&&!(i==0&&(c==101||c==69))) (fun _ _ h=>yu (Bool.and_eq_true_iff.1 h).1) (fun _ _ h=>Nu (Bool.and_eq_true_iff.1 h).1) hr w.data.toList 0 s.size i _ h (by rw[List.length_append]at hs;unfold oJ at hs;omega)];refine Prod.ext ?_ rfl;apply ByteArray.ext
 simp[vZ]
theorem YV{s w:BY}{i:Nat}{r:List UInt8}(ok:Nat->UInt8->Bool)(hok:∀j c,ok j c=true->dZ w j c=true)(hw:0<w.size)(h:At s i (ny ok 0 w.data.toList++r)):iG s i=true:=by
 obtain⟨l,hl⟩:∃l,w.data.toList=l:=⟨_,rfl⟩;have hsz:w.size=l.length:=by rw[<-hl];rfl
 have hp0:pk w 0=jy l:=by rw[<-hl];exact(At.zero w).hd
 rw[hl]at h;match l,hsz,hp0,h with
 |[],hsz,_,_=>rw[hsz]at hw;exact absurd hw (Nat.lt_irrefl _)
 |c::l,hsz,hp0,h=>
  unfold ny at h;by_cases ho:ok 0 c=true
  .rw[if_pos ho]at h;have h0:At s i (c::(ny ok 1 l++r)):=h;have e:pk s i=(c.toNat:Int):=h0.hd;rcases nS (hok 0 c ho)with hc|hc|hc
   .unfold iG;rw[e,hc];split
    .rename_i h45;rw[h45]at hc;exact absurd hc (by decide)
    .rfl
   .exact absurd rfl hc.2.1
   .match l,hsz,h0 with
    |[],hsz,_=>exact absurd (by simpa using hsz) hc.2
    |d::l,hsz,h0=>
     have h1:=h0.tl;unfold iG;rw[e,hc.1,if_pos (by decide)];unfold ny at h1;by_cases ho1:ok 1 d=true
     .rw[if_pos ho1]at h1;have e1:pk s (i+1)=(d.toNat:Int):=At.hd (l:=d::_) h1;rw[e1];rcases nS (hok 1 d ho1)with hd|hd|hd
      .rw[hd];rfl
      .refine absurd ⟨rfl,?_⟩ hd.2.2;rw[hp0,hc.1];rfl
      .rw[hd.1];simp
     .rw[if_neg ho1,List.append_assoc]at h1;rw[(Gz h1).2];simp
  .rw[if_neg ho,List.append_assoc]at h;have e:pk s i=92:=At.hd (l:=92::_) h;unfold iG;rw[e,if_neg (by decide),(Gz h).2];simp
theorem Du{s w:BY}{i:Nat}{r:List UInt8}(hw:0<w.size)(h:At s i (gZ w++r)):iG s i=true:=YV _ (fun _ _ h=>h) hw h
theorem adq{s w:BY}{i:Nat}{r:List UInt8}(hw:0<w.size)(h:At s i (oJ w++r)):iG s i=true:=YV _ (fun _ _ h=>(Bool.and_eq_true_iff.1 h).1) hw h
def yw(w:BY):List UInt8:=34::(ny (fun _ c=>jO c) 0 w.data.toList++[34])
theorem YW(w:BY):(xG w).data.toList=yw w:=by unfold xG yw;rw[kV,kV,OQ];rfl
theorem aaL{c:UInt8}(h:jO c=true):(c.toNat:Int)≠34/\(c.toNat:Int)≠10/\(c.toNat:Int)≠92/\zq c=c:=by
 unfold jO at h;simp at h;refine⟨?_,by omega,?_,?_⟩
 .intro e;exact h.2.1.1.1 (UInt8.toNat_inj.1 (by simpa using(show c.toNat=34 by omega)))
 .intro e;exact h.2.1.1.2 (UInt8.toNat_inj.1 (by simpa using(show c.toNat=92 by omega)))
 .unfold zq;rw[if_neg (by omega)]
theorem Jy{s:BY}{r:List UInt8}:∀(l:List UInt8) (j f i:Nat) (acc:BY),At s i (ny (fun _ c=>jO c) j l++34::r)->l.length<f->lK s 34 f i acc=(Tok.w 2 (acc++⟨(l.map zq).toArray⟩),i+(ny (fun _ c=>jO c) j l).length+1)
 |[],j,f,i,acc,h,hf=>by
  obtain⟨f,rfl⟩:∃g,f=g+1:=⟨f-1,by simp at hf;omega⟩;have h0:At s i (34::r):=h;have e:pk s i=34:=h0.hd;have ea:acc++(⟨(([]:List UInt8).map zq).toArray⟩:BY)=acc:=by apply ByteArray.ext;simp
  unfold lK;rw[if_neg (by have:=h0.lt;omega),if_pos e,ea];rfl
 |c::l,j,f,i,acc,h,hf=>by
  obtain⟨f,rfl⟩:∃g,f=g+1:=⟨f-1,by simp at hf;omega⟩;have hf':l.length<f:=by simp at hf;omega
  unfold ny at h⊢;by_cases ho:jO c=true
  .rw[if_pos ho]at h⊢;have h0:At s i (c::(ny (fun _ c=>jO c) (j+1) l++34::r)):=h;have e:pk s i=(c.toNat:Int):=h0.hd;have hc:=aaL ho;unfold lK;rw[if_neg (by have:=h0.lt;omega),if_neg (by rw[e];exact hc.1),if_neg (by rw[e];exact hc.2.1),if_neg (by rw[e];exact hc.2.2.1),h0.one,Jy l (j+1) f (i+1) _ h0.tl hf'];rw[OT,List.map_cons,hc.2.2.2];refine Prod.ext rfl ?_;simp;omega
  .rw[if_neg ho]at h⊢;rw[List.append_assoc]at h;have h0:At s i (92::hexD (c.toNat/16)::hexD (c.toNat%16)::32::(ny (fun _ c=>jO c) (j+1) l++34::r)):=h;have he:=Gz h;have e:pk s i=92:=h0.hd;have e1:pk s (i+1)=((hexD (c.toNat/16)).toNat:Int):=h0.tl.hd;have hn:=YU (c.toNat/16) (by have:=c.toNat_lt;omega);unfold lK;rw[if_neg (by have:=h0.lt;omega),if_neg (by rw[e];decide),if_neg (by rw[e];decide),if_pos e,if_neg (by have:=h0.tl.lt;omega),if_neg (by rw[e1];exact hn),he.1,Jy l (j+1) f (i+4) _ (At.app h) hf'];rw[OT,List.map_cons];refine Prod.ext rfl ?_;simp[WY];omega
theorem aaM{s w:BY}{i:Nat}{r:List UInt8}(h:At s i (yw w++r)):token s i=(Tok.w 2 (vZ w),i+(yw w).length):=by
 have h0:At s i (34::(ny (fun _ c=>jO c) 0 w.data.toList++34::r)):=by unfold yw at h;simpa using h
 have e:pk s i=34:=h0.hd;have hl:=rO (fun _ c=>jO c) w.data.toList 0;have hs:=h0.size;unfold token;rw[e,if_neg (by decide),if_pos (by decide)];unfold txt;rw[Jy w.data.toList 0 s.size (i+1) _ h0.tl (by simp at hs;omega)];refine Prod.ext ?_ ?_
 .show Tok.w 2 _=Tok.w 2 _;rw[show ByteArray.empty++(⟨(w.data.toList.map zq).toArray⟩:BY)=vZ w by apply ByteArray.ext;simp[vZ]]
 .simp[yw];omega
section
theorem EF(s:BY):∀f a,s.size<=a+f->(∀x,a<=x->x<wU s f a->fG (pk s x)=true)/\fG (pk s (wU s f a))=false
 |0,a,h=>⟨fun x h1 h2=>by unfold wU at h2;omega,by unfold wU;rw[oK (by omega)];rfl⟩
 |f+1,a,h=>by
  unfold wU;by_cases hd:fG (pk s a)=true
  .rw[if_pos hd];have ih:=EF s f (a+1) AE;refine⟨fun x h1 h2=>?_,ih.2⟩;by_cases e:x=a
   .rw[e];exact hd
   .exact ih.1 x AE h2
  .rw[if_neg hd];exact⟨fun x h1 h2=>by omega,by simpa using hd⟩
theorem Dv{s:BY}{a x:Nat}(h1:a<=x)(h2:x<mW s a):fG (pk s x)=true:=(EF s s.size a AE).1 x h1 h2
theorem YX(s:BY)(a:Nat):fG (pk s (mW s a))=false:=(EF s s.size a AE).2
theorem SL{s:BY}{a b:Nat}(hab:a<=b)(h1:∀x,a<=x->x<b->fG (pk s x)=true)(h2:fG (pk s b)=false):mW s a=b:=by
 have g:=xw s a;rcases Nat.lt_trichotomy (mW s a) b with h|h|h
 .have:=h1 _ g h;rw[YX]at this;cases this
 .exact h
 .have:=Dv hab h;rw[h2]at this;cases this
def nT(c:Int):Prop:=fG c=false/\c≠46/\c≠101/\c≠69
section
variable {s t:BY} {i j n:Nat} (ha : ∀ d,d<n->pk t (j+d)=pk s (i+d)) (hst:nT (pk t (j+n)))
include ha hst
theorem EH{d e:Nat}(hd:mW s (i+d)=i+e)(he:e<=n):mW t (j+d)=j+e:=by
 have g:=xw s (i+d);refine SL AE (fun x h1 h2=>?_) ?_
 .have:=Dv (s:=s) (a:=i+d) (x:=i+(x-j)) AE AE;rw[show x=j+(x-j) by omega,ha _ (by omega)];exact this
 .by_cases h:e<n
  .rw[ha e h,<-hd];exact YX s _
  .rw[show e=n by omega];exact hst.1
theorem aaN(hb:iO s i=true)(hn:bT s i=i+n):iO t j=true/\bT t j=j+n:=by
 obtain⟨σ,hσ⟩:∃σ,mX s i=i+σ:=⟨mX s i-i,by have:=Ef s i;omega⟩;have hσ1:σ<=1:=by have:=afI s i;omega
 obtain⟨e1,h1⟩:∃e,mW s (i+σ)=i+e:=⟨mW s (i+σ)-i,by have:=xw s (i+σ);omega⟩;obtain⟨e2,h2⟩:∃e,jL s (i+e1)=i+e:=⟨jL s (i+e1)-i,by have:=Bz s (i+e1);omega⟩;have g1:=xw s (i+σ);have g2:=Bz s (i+e1);have hn':iq s (i+e2)=i+n:=by have:=hn;unfold bT at this;rw[hσ,h1,h2]at this;exact this
 have g3:=Oj s (i+e2);have hlt:=yY hb;have h0:pk t j=pk s i:=by have:=ha 0 AE;simpa using this
 have hσt:mX t j=j+σ:=by
  unfold mX at hσ⊢;rw[h0];split<;>rename_i hs
  .rw[if_pos hs]at hσ;omega
  .rw[if_neg hs]at hσ;omega
 have k1:mW t (j+σ)=j+e1:=EH ha hst h1 AE;have k2:jL t (j+e1)=j+e2:=by
  unfold jL at h2⊢;by_cases hf:pk s (i+e1)=46/\fG (pk s (i+e1+1))=true
  .rw[if_pos hf]at h2;have g4:=GY hf.2;rw[ha e1 (by omega),Nat.add_assoc,ha (e1+1) (by omega),<-Nat.add_assoc,if_pos hf];exact EH ha hst (d:=e1+1) (by rw[<-Nat.add_assoc];exact h2) AE
  .rw[if_neg hf]at h2;have e:e1=e2:=by omega
   rw[if_neg,e];intro hh;by_cases h:e1<n
   .rw[ha e1 h]at hh;unfold iq at hn';split at hn'
    .rename_i hx;rw[<-e,hh.1]at hx;omega
    .omega
   .rw[show e1=n by omega]at hh;exact hst.2.1 hh.1
 have k3:iq t (j+e2)=j+n:=by
  unfold iq at hn' ⊢;by_cases hx:pk s (i+e2)=101\/pk s (i+e2)=69
  .rw[if_pos hx]at hn';by_cases hy:fG (pk s (mX s (i+e2+1)))=true
   .rw[if_pos hy]at hn';have g4:=GY hy;obtain⟨e3,h3⟩:∃e,mX s (i+e2+1)=i+e:=⟨mX s (i+e2+1)-i,by have:=Ef s (i+e2+1);omega⟩;have g5:=Ef s (i+e2+1);have q1:pk t (j+e2)=pk s (i+e2):=ha e2 AE;have q2:pk t (j+e2+1)=pk s (i+e2+1):=by rw[Nat.add_assoc,Nat.add_assoc];exact ha (e2+1) AE
    have q3:mX t (j+e2+1)=j+e3:=by
     unfold mX at h3⊢;rw[q2];split<;>rename_i hs
     .rw[if_pos hs]at h3;omega
     .rw[if_neg hs]at h3;omega
    rw[h3]at hy hn' g4;rw[q1,if_pos hx,q3,ha e3 (by omega),if_pos hy];exact EH ha hst hn' (Nat.le_refl _)
   .rw[if_neg hy]at hn';have e:e2=n:=by omega
    rw[e,if_neg];exact fun h=>h.elim hst.2.2.1 hst.2.2.2
  .rw[if_neg hx]at hn';have e:e2=n:=by omega
   rw[e,if_neg];exact fun h=>h.elim hst.2.2.1 hst.2.2.2
 refine⟨?_,?_⟩
 .unfold iO at hb⊢;rw[hσ]at hb;rw[hσt];by_cases hd:fG (pk s (i+σ))=true
  .have:=GY hd;rw[ha σ (by omega),hd];rfl
  .have hd':fG (pk s (i+σ))=false:=by simpa using hd
   rw[hd']at hb;simp only[Bool.false_or,Bool.and_eq_true,beq_iff_eq]at hb;have hs:=Qm hd';have e:e1=σ:=by omega
   have hf:jL s (i+e1)=mW s (i+e1+1):=by unfold jL;rw[if_pos (by rw[e];exact hb)]
   have:=GY (s:=s) (i:=i+e1+1) (by rw[e];exact hb.2);rw[ha σ (by omega),Nat.add_assoc,ha (σ+1) (by omega),<-Nat.add_assoc,hb.1,hb.2];simp
 .unfold bT;rw[hσt,k1,k2,k3]
end
def LX(x:BY):Prop:=∀(t:BY) (j:Nat) (r:List UInt8),At t j (x.data.toList++r)->nT (jy r)->iO t j=true/\bT t j=j+x.size
theorem At.WZ{s t:BY}{i k j:Nat}{r:List UInt8}(hk:k<=s.size)(h:At t j ((s.extract i k).data.toList++r)):∀d,d<k-i->pk t (j+d)=pk s (i+d):=by
 intro d hd;have hsz:=h.size;have hl:(s.extract i k).data.toList.length=k-i:=by
  have:(s.extract i k).size=k-i:=by rw[ByteArray.size_extract];omega
  exact this
 have hlt:j+d<t.size:=by rw[List.length_append,hl]at hsz;omega
 rw[zK hlt,zK (show i+d<s.size by omega)];have h1:t.data.toList[j+d]?=s.data.toList[i+d]?:=by have e:=congrArg (fun x=>x[d]?) h.2;simp only[List.getElem?_drop]at e;rw[e,List.getElem?_append_left (by omega),ByteArray.data_extract,Array.toList_extract,List.extract_eq_take_drop,List.getElem?_take,if_pos (by omega),List.getElem?_drop]
 have h2:t.data[j+d]'hlt=s.data[i+d]'(show i+d<s.size by omega):=by rw[Array.getElem?_toList,Array.getElem?_toList]at h1;rw[Array.getElem?_eq_getElem hlt,Array.getElem?_eq_getElem (show i+d<s.data.size by have:s.data.size=s.size:=rfl;omega)]at h1;exact Option.some.inj h1
 show((t.data[j+d]'hlt).toNat:Int)=_;rw[h2];rfl
theorem adr{s:BY}{i:Nat}(hi:i<=s.size)(hb:iO s i=true):LX (s.extract i (bT s i)):=by
 intro t j r h hst;have hk:=yX hi;have hg:=yY hb;have hsz:(s.extract i (bT s i)).size=bT s i-i:=by rw[ByteArray.size_extract];omega
 have hr:At t (j+(s.extract i (bT s i)).data.toList.length) r:=h.app;have hl:(s.extract i (bT s i)).data.toList.length=bT s i-i:=hsz;rw[hl]at hr;have:=aaN (n:=bT s i-i) (At.WZ hk h) (by rw[hr.hd];exact hst) hb AE;rw[hsz];exact this
end
inductive Pc where
 |blank
 |text (w:BY)
 |hash (w:BY)
 |num (w:BY)
 |pct (w:BY)
 |dim (w u:BY)
 |at_ (w:BY)
 |ident (w:BY)
 |func (w:BY)
 |sign (c:UInt8)
 |com
def Pc.bytes:Pc->List UInt8
 |.blank=>[32]
 |.text w=>yw w
 |.hash w=>35::gZ w
 |.num w=>w.data.toList
 |.pct w=>w.data.toList++[37]
 |.dim w u=>w.data.toList++oJ u
 |.at_ w=>64::gZ w
 |.ident w=>gZ w
 |.func w=>gZ w++[40]
 |.sign c=>[c]
 |.com=>[47,42,42,47]
def Pc.tok:Pc->Option Tok
 |.blank=>some (Tok.k 1)
 |.text w=>some (Tok.w 2 (vZ w))
 |.hash w=>some (Tok.w 4 (vZ w))
 |.num w=>some (Tok.w 5 w)
 |.pct w=>some (Tok.w 6 w)
 |.dim w u=>some ⟨7,w,vZ u⟩
 |.at_ w=>some (Tok.w 10 (vZ w))
 |.ident w=>some (Tok.w 14 (vZ w))
 |.func w=>some (Tok.w 11 (vZ w))
 |.sign c=>some (Tok.w 15 (b1 c))
 |.com=>none
def lT:List UInt8:=[33,36,37,40,41,42,43,44,45,46,47,58,59,61,62,91,93,94,123,125,126]
def Pc.ok:Pc->Prop
 |.hash w=>0<w.size
 |.num w=>LX w
 |.pct w=>LX w
 |.dim w u=>LX w/\0<u.size
 |.at_ w=>0<w.size
 |.ident w=>0<w.size
 |.func w=>0<w.size
 |.sign c=>c∈lT
 |_=>True
def Pc.stop:Pc->List UInt8->Prop
 |.blank,r=>aO (jy r)=false
 |.hash _,r=>uG r
 |.num _,r=>nT (jy r)/\jy r≠37/\kK (jy r)=false/\jy r≠45/\jy r≠92
 |.dim _ _,r=>uG r
 |.at_ _,r=>uG r
 |.ident _,r=>uG r/\jy r≠40/\jy r≠62
 |.func w,r=>small (vZ w)=url->∃r',r=34::r'\/r=32::34::r'
 |.sign c,r=>(c=43->fG (jy r)=false/\jy r≠46)/\(c=46->fG (jy r)=false)/\(c=45->fG (jy r)=false/\jy r≠46/\kK (jy r)=false/\jy r≠45/\jy r≠92)/\(c=47->jy r≠42)
 |.com,r=>¬(jy r=47/\jy r.tail=42)
 |_,_=>True
theorem Jz{w:BY}(hw:0<w.size)(r:List UInt8):∃c l,gZ w++r=c::l/\((c.toNat:Int)=92\/(c.toNat:Int)=45\/kK (c.toNat:Int)=true):=by
 obtain⟨l,hl⟩:∃l,w.data.toList=l:=⟨_,rfl⟩;have hsz:w.size=l.length:=by rw[<-hl];rfl
 unfold gZ;rw[hl];match l,hsz with
 |[],hsz=>rw[hsz]at hw;exact absurd hw (Nat.lt_irrefl _)
 |c::l,_=>
  unfold ny;by_cases ho:dZ w 0 c=true
  .rw[if_pos ho];refine⟨c,_,rfl,?_⟩;rcases nS ho with h|h|h
   .exact .inr (.inr h)
   .exact absurd rfl h.2.1
   .rw[h.1];exact .inr (.inl rfl)
  .rw[if_neg ho];exact⟨92,_,rfl,.inl rfl⟩
theorem kW{s:BY}{i:Nat}(h:¬(pk s i=47/\pk s (i+1)=42)):com s i=i:=by
 unfold com;cases s.size with
 |zero=>rfl
 |succ f=>unfold Bv;rw[if_neg h]
theorem YZ{s:BY}{i:Nat}{l:List UInt8}(h:At s i l)(hi:pk s i ≠ -1):pk s (i+1)=jy l.tail:=by
 cases l with
 |nil=>exact absurd h.hd hi
 |cons c r=>exact h.tl.hd
theorem ads{s:BY}{i:Nat}{r:List UInt8}(h:At s i (47::42::42::47::r))(hr:¬(jy r=47/\jy r.tail=42)):com s i=i+4:=by
 have h4:At s (i+4) r:=At.app (a:=[47,42,42,47]) h;have e0:pk s i=47:=h.hd;have e1:pk s (i+1)=42:=h.tl.hd;have e2:pk s (i+2)=42:=h.tl.tl.hd;have e3:pk s (i+2+1)=47:=h.tl.tl.tl.hd;have hl2:=h.tl.tl.lt;have hstar:star s (i+2)=i+2:=by
  unfold star;cases s.size with
  |zero=>rfl
  |succ f=>unfold lY;rw[if_neg (fun hh=>hh.2 ⟨e2,e3⟩)]
 have hno:¬(pk s (i+4)=47/\pk s (i+4+1)=42):=fun hh=>hr ⟨by rw[<-h4.hd];exact hh.1,by rw[<-YZ h4 (by rw[hh.1];decide)];exact hh.2⟩;unfold com;obtain⟨f,hf⟩:∃f,s.size=f+1:=⟨s.size-1,by omega⟩;rw[hf];unfold Bv;rw[if_pos ⟨e0,e1⟩,hstar,if_neg (by omega)];cases f with
 |zero=>rfl
 |succ f=>unfold Bv;rw[if_neg hno]
theorem Y0{s:BY}{i:Nat}{r:List UInt8}(h:At s i (32::r))(hr:aO (jy r)=false):blk s i=i+1:=by
 have e0:pk s i=32:=h.hd;have e1:pk s (i+1)=jy r:=h.tl.hd;have hl:=h.lt;unfold blk;obtain⟨f,hf⟩:∃f,s.size=f+1:=⟨s.size-1,by omega⟩;rw[hf];unfold Ae;rw[e0,if_pos (by decide)];cases f with
 |zero=>rfl
 |succ f=>unfold Ae;rw[e1,hr];rfl
theorem SN{s:BY}{i:Nat}(h:aO (pk s i)=false):blk s i=i:=by
 unfold blk;cases s.size with
 |zero=>rfl
 |succ f=>unfold Ae;rw[h];rfl
theorem GH{c:Int}(h:fG c=true):aO c=false/\dD c=false/\c≠35/\c≠46/\ou c=false:=by have:=kM h;unfold aO dD ou;simp;omega
theorem Nv{s:BY}{i:Nat}(h:iO s i=true):aO (pk s i)=false/\dD (pk s i)=false/\pk s i≠35/\pk s i≠47:=by
 unfold iO mX at h;by_cases hs:ou (pk s i)=true
 .unfold ou at hs;unfold aO dD;simp at hs⊢;omega
 .rw[if_neg hs]at h;simp only[Bool.or_eq_true,Bool.and_eq_true,beq_iff_eq]at h;rcases h with h|h
  .have:=GH h;have:=kM h;refine⟨(GH h).1,?_,?_,?_⟩
   .exact(GH h).2.1
   .omega
   .omega
  .rw[h.1];decide
theorem yx{c:Int}(h:kK c=true\/c=45\/c=92):aO c=false/\dD c=false/\c≠35/\c≠64/\c≠60/\c≠46/\c≠43/\c≠47/\fG c=false:=by unfold kK at h;unfold aO dD fG;simp at h⊢;omega
theorem At.at{s:BY}{i:Nat}{a r:List UInt8}(h:At s i (a++r)){d:Nat}(hd:d<a.length):pk s (i+d)=((a[d]).toNat:Int):=by
 have h1:a=a.take d++a[d]::a.drop (d+1):=by rw[<-List.drop_eq_getElem_cons hd,List.take_append_drop]
 have h2:At s i (a.take d++(a[d]::a.drop (d+1)++r)):=by rw[<-List.append_assoc,<-h1];exact h
 have h3:=h2.app;rw[List.length_take,Nat.min_eq_left (by omega)]at h3;exact h3.hd
def kH(c:UInt8):Prop:=32<=c.toNat/\c.toNat<=126/\c.toNat≠60/\c.toNat≠62
theorem Nw:∀n,n<16->32<=(hexD n).toNat/\(hexD n).toNat<=126/\(hexD n).toNat≠60/\(hexD n).toNat≠62:=by decide
theorem aaO(c:UInt8):∀b∈WY c,kH b:=by
 have hc:=c.toNat_lt;intro b hb;unfold WY at hb;simp only[List.mem_cons,List.not_mem_nil,or_false]at hb;rcases hb with rfl|rfl|rfl|rfl
 .unfold kH;decide
 .exact Nw _ AE
 .exact Nw _ AE
 .unfold kH;decide
theorem zk(ok:Nat->UInt8->Bool)(hok:∀i c,ok i c=true->kH c):∀(l:List UInt8) (j:Nat),∀b∈ny ok j l,kH b
 |[],_,b,hb=>by simp[ny]at hb
 |c::l,j,b,hb=>by
  unfold ny at hb;rcases List.mem_append.1 hb with hb|hb
  .split at hb
   .rename_i ho;rw[List.mem_singleton.1 hb];exact hok j c ho
   .exact aaO c b hb
  .exact zk ok hok l (j+1) b hb
theorem FN{w:BY}{i:Nat}{c:UInt8}(h:dZ w i c=true):kH c:=by
 unfold dZ at h;unfold kH;split at h
 .rename_i hd;unfold oV at hd;simp at hd;omega
 .split at h
  .rename_i hc;rw[hc];decide
  .unfold oU at h;simp at h;rcases h with h|h
   .omega
   .rw[h];decide
theorem rP(w:BY):∀b∈gZ w,kH b:=zk _ (fun _ _ h=>FN h) _ _
theorem adt{s w:BY}{i:Nat}{r:List UInt8}(hw:0<w.size)(h:At s i (gZ w++r)):iO s i=false:=by
 obtain⟨c,l,hc,hcc⟩:=Jz hw r;have hb:=Du hw h;have e:pk s i=(c.toNat:Int):=by rw[hc]at h;exact h.hd
 have hn:=yx (c:=pk s i) (by rw[e];exact hcc.elim (fun h=>.inr (.inr h)) (fun h=>h.elim (fun h=>.inr (.inl h)) .inl));unfold iO mX;by_cases hs:ou (pk s i)=true
 .rw[if_pos hs];have h45:pk s i=45:=by
   unfold ou at hs;simp at hs;omega
  unfold iG at hb;rw[if_pos h45]at hb;simp only[Bool.or_eq_true,beq_iff_eq]at hb;have hx:kK (pk s (i+1))=true\/pk s (i+1)=45\/pk s (i+1)=92:=by
   rcases hb with (hb|hb)|hb
   .exact .inl hb
   .exact .inr (.inl hb)
   .exact .inr (.inr (abW hb).1)
  have:=yx hx;rw[this.2.2.2.2.2.2.2.2];simp[this.2.2.2.2.2.1]
 .rw[if_neg hs,hn.2.2.2.2.2.2.2.2];simp[hn.2.2.2.2.2.1]
theorem adu{s w:BY}{i:Nat}{r:List UInt8}(hw:0<w.size)(hr:uG r)(h62:jy r≠62)(h:At s i (gZ w++r)):kL s i=false:=by
 have hl:0<(gZ w).length:=Nat.lt_of_lt_of_le hw (rO _ _ _);have hrr:=h.app.hd;have hmem:∀d,(hd:d<(gZ w).length)->pk s (i+d)≠62:=fun d hd e=>by rw[h.at hd]at e;have:=(rP w _ (List.getElem_mem hd)).2.2.2;omega
 cases hq:kL s i with
 |false=>rfl
 |true=>
  exfalso
  unfold kL at hq;simp only[Bool.and_eq_true,beq_iff_eq]at hq;rcases Nat.lt_trichotomy (gZ w).length 2 with hlt|he|hgt
  .have:(gZ w).length=1:=by omega
   rw[this,hq.1.2]at hrr;have h1:=hr.1;rw[<-hrr]at h1;exact absurd h1 (by decide)
  .rw[he,hq.2]at hrr;exact h62 hrr.symm
  .exact hmem 2 hgt hq.2
theorem JA:∀c∈lT,aO (c.toNat:Int)=false/\dD (c.toNat:Int)=false/\(c.toNat:Int)≠35/\(c.toNat:Int)≠60/\(c.toNat:Int)≠64/\kK (c.toNat:Int)=false/\(c.toNat:Int)≠92/\fG (c.toNat:Int)=false:=by decide
theorem aaP{s:BY}{i:Nat}{c:UInt8}{r:List UInt8}(hc:c∈lT)(hs:(Pc.sign c).stop r)(h:At s i (c::r)):token s i=(Tok.w 15 (b1 c),i+1):=by
 have e:pk s i=(c.toNat:Int):=h.hd;have e1:pk s (i+1)=jy r:=h.tl.hd;obtain⟨s1,s2,s3,s4⟩:=hs;obtain⟨a1,a2,a3,a4,a5,a6,a7,a8⟩:=JA c hc;have hnum:iO s i=false:=by
  unfold iO mX;rw[e];by_cases h43:c=43
  .subst h43;rw[if_pos (by decide),e1,(s1 rfl).1];simp[(s1 rfl).2]
  .by_cases h45:c=45
   .subst h45;rw[if_pos (by decide),e1,(s3 rfl).1];simp[(s3 rfl).2.1]
   .have hns:¬ou (c.toNat:Int)=true:=by
     unfold ou;simp;exact⟨fun h=>h43 (UInt8.toNat_inj.1 (by simpa using(show c.toNat=43 by omega))),fun h=>h45 (UInt8.toNat_inj.1 (by simpa using(show c.toNat=45 by omega)))⟩
    rw[if_neg hns,e,a8,e1];by_cases h46:c=46
    .subst h46;rw[s2 rfl];rfl
    .have:(c.toNat:Int)≠46:=fun h=>h46 (UInt8.toNat_inj.1 (by simpa using(show c.toNat=46 by omega)));simp[this]
 have amT:iG s i=false:=by
  unfold iG;rw[e];by_cases h45:c=45
  .subst h45;rw[if_pos (by decide)];unfold kY;rw[e1,(s3 rfl).2.2.1];simp[(s3 rfl).2.2.2.1,(s3 rfl).2.2.2.2]
  .rw[if_neg (fun h=>h45 (UInt8.toNat_inj.1 (by simpa using(show c.toNat=45 by omega)))),a6];unfold kY;rw[e];simp[a7]
 have hs4:kG s i=false:=by unfold kG;rw[e];simp[a4]
 have hs3:kL s i=false:=by
  unfold kL;rw[e,e1];by_cases h45:c=45
  .subst h45;simp[(s3 rfl).2.2.2.1]
  .have:(c.toNat:Int)≠45:=fun h=>h45 (UInt8.toNat_inj.1 (by simpa using(show c.toNat=45 by omega)));simp[this]
 unfold token;rw[e,a1,a2,hnum,hs4,hs3,amT,if_neg (by simp),if_neg (by simp),if_neg (fun h=>a3 h.1),if_neg (by simp),if_neg (by simp),if_neg (by simp),if_neg (fun h=>a5 h.1),if_neg (by simp),h.one]
theorem At.extract{s a:BY}{i:Nat}{r:List UInt8}(h:At s i (a.data.toList++r)):s.extract i (i+a.size)=a:=by
 apply ByteArray.ext
 apply Array.toList_inj.1
 have hl:a.size=a.data.toList.length:=rfl;rw[ByteArray.data_extract,Array.toList_extract,List.extract_eq_take_drop,h.2,hl];simp
theorem JB{s w:BY}{i:Nat}{r:List UInt8}(hw:LX w)(hr:nT (jy r))(h:At s i (w.data.toList++r)):token s i=numeric s i/\bT s i=i+w.size/\s.extract i (bT s i)=w/\At s (i+w.size) r/\com s i=i:=by
 obtain⟨hb,he⟩:=hw s i r h hr;have hf:=Nv hb;refine⟨?_,he,?_,h.app,kW fun hh=>hf.2.2.2 hh.1⟩
 .unfold token;rw[hf.1,hf.2.1,hb,if_neg (by simp),if_neg (by simp),if_neg (fun hh=>hf.2.2.1 hh.1),if_pos rfl]
 .rw[he];exact h.extract
theorem aaQ{s:BY}{i:Nat}{r:List UInt8}(h:At s i r)(h1:kK (jy r)=false)(h2:jy r≠45)(h3:jy r≠92):iG s i=false:=by unfold iG;rw[h.hd,if_neg h2,h1];unfold kY;rw[h.hd];simp[h3]
theorem Xc{s w:BY}{i:Nat}{r:List UInt8}(hw:0<w.size)(h:At s i (gZ w++r)):aO (pk s i)=false/\dD (pk s i)=false/\pk s i≠35/\pk s i≠64/\pk s i≠60/\pk s i≠47:=by
 obtain⟨c,l,hc,hcc⟩:=Jz hw r;have e:pk s i=(c.toNat:Int):=by rw[hc]at h;exact h.hd
 have hn:=yx (c:=pk s i) (by rw[e];exact hcc.elim (fun h=>.inr (.inr h)) (fun h=>h.elim (fun h=>.inr (.inl h)) .inl));exact⟨hn.1,hn.2.1,hn.2.2.1,hn.2.2.2.1,hn.2.2.2.2.1,hn.2.2.2.2.2.2.2.1⟩
theorem JC{s w:BY}{i:Nat}{r:List UInt8}(hw:0<w.size)(hr:uG r)(h62:jy r≠62)(h:At s i (gZ w++r)):token s i=named s i/\name s i=(vZ w,i+(gZ w).length)/\At s (i+(gZ w).length) r/\com s i=i:=by
 have hf:=Xc hw h;refine⟨?_,ED hr h,h.app,kW fun hh=>hf.2.2.2.2.2 hh.1⟩;have h4:kG s i=false:=by unfold kG;simp[hf.2.2.2.2.1]
 unfold token;rw[hf.1,hf.2.1,adt hw h,h4,adu hw hr h62 h,Du hw h,if_neg (by simp),if_neg (by simp),if_neg (fun hh=>hf.2.2.1 hh.1),if_neg (by simp),if_neg (by simp),if_neg (by simp),if_neg (fun hh=>hf.2.2.2.1 hh.1),if_pos rfl]
theorem adv{w:BY}(hw:0<w.size)(r:List UInt8):nT (jy (oJ w++r))/\jy (oJ w++r)≠37:=by
 obtain⟨l,hl⟩:∃l,w.data.toList=l:=⟨_,rfl⟩;have hsz:w.size=l.length:=by rw[<-hl];rfl
 unfold oJ;rw[hl];match l,hsz with
 |[],hsz=>rw[hsz]at hw;exact absurd hw (Nat.lt_irrefl _)
 |c::l,_=>
  unfold ny;by_cases ho:(dZ w 0 c&&!((0:Nat)==0&&(c==101||c==69)))=true
  .rw[if_pos ho];show nT (c.toNat:Int)/\(c.toNat:Int)≠37;obtain⟨h1,h2⟩:=Bool.and_eq_true_iff.1 ho;simp at h2;have e1:c.toNat≠101:=fun e=>h2.1 (UInt8.toNat_inj.1 (by simpa using e));have e2:c.toNat≠69:=fun e=>h2.2 (UInt8.toNat_inj.1 (by simpa using e));rcases nS h1 with h|h|h
   .have hn:=yx (.inl h);unfold kK at h;simp at h;exact⟨⟨hn.2.2.2.2.2.2.2.2,hn.2.2.2.2.2.1,by omega,by omega⟩,by omega⟩
   .exact absurd rfl h.2.1
   .rw[h.1];unfold nT;decide
  .rw[if_neg ho];show nT (92:Int)/\(92:Int)≠37;unfold nT;decide
theorem Xd{s:BY}{i:Nat}{r:List UInt8}{p:Pc}(hp:p.ok)(hs:p.stop r)(hne:p≠.com)(h:At s i (p.bytes++r)):∃t,p.tok=some t/\token s i=(t,i+p.bytes.length)/\com s i=i:=by
 match p,hp,hs,hne,h with
 |.blank,_,hs,_,h=>have h0:At s i (32::r):=h;have e:pk s i=32:=h0.hd;refine⟨_,rfl,?_,kW fun hh=>by rw[e]at hh;exact absurd hh.1 (by decide)⟩;unfold token;rw[e,if_pos (by decide),Y0 h0 hs];rfl
 |.text w,_,_,_,h=>refine⟨_,rfl,aaM h,kW fun hh=>?_⟩;have e:pk s i=34:=At.hd (l:=34::_) h;rw[e]at hh;exact absurd hh.1 (by decide)
 |.hash w,hw,hs,_,h=>have h0:At s i (35::(gZ w++r)):=h;have e:pk s i=35:=h0.hd;refine⟨_,rfl,?_,kW fun hh=>by rw[e]at hh;exact absurd hh.1 (by decide)⟩;unfold token;rw[e,if_neg (by decide),if_neg (by decide),if_pos ⟨rfl,xu (Du hw h0.tl)⟩,ED hs h0.tl];refine Prod.ext rfl ?_;simp[Pc.bytes];omega
 |.num w,hw,hs,_,h=>obtain⟨h1,h2,h3,h4,h5⟩:=JB hw hs.1 h;refine⟨_,rfl,?_,h5⟩;rw[h1];unfold numeric;simp only[h2];rw[if_neg (by rw[h4.hd];exact hs.2.1),aaQ h4 hs.2.2.1 hs.2.2.2.1 hs.2.2.2.2,if_neg (by simp),<-h2,h3,h2];rfl
 |.pct w,hw,_,_,h=>
  have h0:At s i (w.data.toList++37::r):=by have:At s i (w.data.toList++[37]++r):=h;simpa using this
  obtain⟨h1,h2,h3,h4,h5⟩:=JB (r:=37::r) hw (show nT (37:Int) by unfold nT;decide) h0;refine⟨_,rfl,?_,h5⟩;rw[h1];unfold numeric;simp only[h2];rw[if_pos (by rw[h4.hd];rfl),<-h2,h3,h2];refine Prod.ext rfl ?_;have hl:w.size=w.data.toList.length:=rfl;show _=i+(w.data.toList++[37]).length;simp only[List.length_append,List.length_cons,List.length_nil];omega
 |.dim w u,hw,hs,_,h=>
  have h0:At s i (w.data.toList++(oJ u++r)):=by have:At s i (w.data.toList++oJ u++r):=h;simpa using this
  have hu:nT (jy (oJ u++r))/\jy (oJ u++r)≠37:=adv hw.2 r;obtain⟨h1,h2,h3,h4,h5⟩:=JB hw.1 hu.1 h0;refine⟨_,rfl,?_,h5⟩;rw[h1];unfold numeric;simp only[h2];rw[if_neg (by rw[h4.hd];exact hu.2),adq hw.2 h4,if_pos rfl,<-h2,h3,h2,aaK hs h4];refine Prod.ext rfl ?_;have hl:w.size=w.data.toList.length:=rfl;show _=i+(w.data.toList++oJ u).length;rw[List.length_append];show i+w.size+(oJ u).length=_;omega
 |.at_ w,hw,hs,_,h=>
  have h0:At s i (64::(gZ w++r)):=h;have e:pk s i=64:=h0.hd;refine⟨_,rfl,?_,kW fun hh=>by rw[e]at hh;exact absurd hh.1 (by decide)⟩;have hnum:iO s i=false:=by unfold iO mX;rw[e,if_neg (by decide),e];rfl
  have h4:kG s i=false:=by unfold kG;rw[e];rfl
  have h3:kL s i=false:=by unfold kL;rw[e];rfl
  unfold token;rw[e,hnum,h4,h3,if_neg (by decide),if_neg (by decide),if_neg (fun hh=>absurd hh.1 (by decide)),if_neg (by simp),if_neg (by simp),if_neg (by simp),if_pos ⟨rfl,Du hw h0.tl⟩,ED hs h0.tl];refine Prod.ext rfl ?_;simp[Pc.bytes];omega
 |.ident w,hw,hs,_,h=>obtain⟨h1,h2,h3,h5⟩:=JC hw hs.1 hs.2.2 h;refine⟨_,rfl,?_,h5⟩;rw[h1];unfold named;simp only[h2];rw[if_neg (by rw[h3.hd];exact hs.2.1)];rfl
 |.func w,hw,hs,_,h=>
  have h0:At s i (gZ w++40::r):=by have:At s i (gZ w++[40]++r):=h;simpa using this
  obtain⟨h1,h2,h3,h5⟩:=JC (r:=40::r) hw ⟨show lX 40=false by decide,show(40:Int)≠92 by decide⟩ (show(40:Int)≠62 by decide) h0;refine⟨_,rfl,?_,h5⟩;rw[h1];unfold named;simp only[h2];have e:pk s (i+(gZ w).length)=40:=h3.hd;rw[if_pos e,if_neg]
  .refine Prod.ext rfl ?_;simp[Pc.bytes];omega
  .rintro ⟨hu,hq⟩;obtain⟨r',hr|hr⟩:=hs hu
   .have h6:=h3.tl;rw[hr]at h6;have e6:pk s (i+(gZ w).length+1)=34:=h6.hd;rw[SN (by rw[e6];decide),e6]at hq;exact absurd hq (by decide)
   .have h6:=h3.tl;rw[hr]at h6;have e6:pk s (i+(gZ w).length+1+1)=34:=h6.tl.hd;rw[Y0 h6 (show aO 34=false by decide),e6]at hq;exact absurd hq (by decide)
 |.sign c,hc,hs,_,h=>have h0:At s i (c::r):=h;refine⟨_,rfl,aaP hc hs h0,kW fun hh=>?_⟩;have e:pk s i=(c.toNat:Int):=h0.hd;have e1:pk s (i+1)=jy r:=h0.tl.hd;rw[e,e1]at hh;exact hs.2.2.2 (UInt8.toNat_inj.1 (by simpa using(show c.toNat=47 by omega))) hh.2
 |.com,_,_,hne,_=>exact absurd rfl hne
def flat:List Pc->List UInt8
 |[]=>[]
 |p::r=>p.bytes++flat r
theorem aN:∀(a b:List Pc),flat (a++b)=flat a++flat b
 |[],_=>rfl
 |p::r,b=>by show p.bytes++flat (r++b)=p.bytes++flat r++flat b;rw[aN r b,List.append_assoc]
def Good:List Pc->List UInt8->Prop
 |[],_=>True
 |p::l,r=>p.ok/\p.stop (flat l++r)/\Good l r
theorem Good.append:∀ {a b:List Pc}{r:List UInt8},Good a (flat b++r)->Good b r->Good (a++b) r
 |[],_,_,_,h=>h
 |p::l,b,r,h,h'=>⟨h.1,by show p.stop (flat (l++b)++r);rw[aN,List.append_assoc];exact h.2.1,Good.append h.2.2 h'⟩
def dA(l:List Pc):List Tok:=l.filterMap Pc.tok
theorem cO(a b:List Pc):dA (a++b)=dA a++dA b:=List.filterMap_append
theorem Pc.pos{p:Pc}(h:p.ok):0<p.bytes.length:=by
 match p,h with
 |.blank,_=>exact Nat.one_pos
 |.text w,_=>simp[Pc.bytes,yw]
 |.hash w,_=>simp[Pc.bytes]
 |.num w,h=>
  show 0<w.data.toList.length;cases hl:w.data.toList with
  |cons c l=>simp
  |nil=>
   exfalso
   have:=(h ByteArray.empty 0 [] ⟨Nat.zero_le _,by rw[hl];rfl⟩ (by unfold nT jy;decide)).1;revert this;decide
 |.pct w,_=>simp[Pc.bytes]
 |.dim w u,h=>have:=rO (fun i c=>dZ u i c&&!(i==0&&(c==101||c==69))) u.data.toList 0;have h2:0<u.data.toList.length:=h.2;simp only[Pc.bytes,List.length_append,oJ];omega
 |.at_ w,_=>simp[Pc.bytes]
 |.ident w,h=>have:=rO (dZ w) w.data.toList 0;have h2:0<w.data.toList.length:=h;simp only[Pc.bytes,gZ];omega
 |.func w,_=>simp[Pc.bytes]
 |.sign c,_=>simp[Pc.bytes]
 |.com,_=>simp[Pc.bytes]
theorem EI{s:BY}:∀(l:List Pc) (i f:Nat),At s i (flat l)->Good l []->(flat l).length<=f->tokF s f (com s i)=dA l
 |[],i,f,h,_,_=>by
  have h0:At s i []:=h;have e:pk s i = -1:=h0.hd;rw[kW (fun hh=>by rw[e]at hh;exact absurd hh.1 (by decide))];have:=h0.size;cases f with
  |zero=>rfl
  |succ f=>unfold tokF;rw[if_pos (by simp at this;omega)];rfl
 |p::l,i,f,h,hg,hf=>by
  have h0:At s i (p.bytes++flat l):=h;obtain⟨g1,g2,g3⟩:=hg;rw[List.append_nil]at g2;have hpos:=Pc.pos g1;have hlen:(flat (p::l)).length=p.bytes.length+(flat l).length:=List.length_append;by_cases hp:p=.com
  .subst hp;have h1:At s (i+4) (flat l):=h0.app;have e:com s (i+4)=i+4:=kW fun hh=>g2 ⟨by rw[<-h1.hd];exact hh.1,by rw[<-YZ h1 (by rw[hh.1];decide)];exact hh.2⟩;have ih:=EI l (i+4) f h1 g3 AE;rw[e]at ih;rw[ads h0 g2,ih];rfl
  .obtain⟨t,ht,hsc,hcm⟩:=Xd g1 g2 hp h0;obtain⟨f,rfl⟩:∃g,f=g+1:=⟨f-1,by omega⟩;have hsz:=h0.size;rw[hcm];unfold tokF;rw[if_neg (by rw[List.length_append]at hsz;omega),hsc];show t::tokF s f (com s (i+p.bytes.length))=_;rw[EI l _ f h0.app g3 (by omega)];unfold dA;rw[List.filterMap_cons,ht]
theorem pU{n:Nd}{r:List Nd}(h:n.t.kind=1):aH (n::r)=aH r:=by simp[aH,iH,h]
theorem pV{n:Nd}{r:List Nd}(h:¬n.t.kind=1):aH (n::r)=n::r:=by simp[aH,iH,h]
theorem Qs{l:List Nd}{n:Nd}(h:n.t.kind=1):lJ (l++[n])=lJ l:=by simp[lJ,pU h]
theorem Fa{l:List Nd}{n:Nd}(h:¬n.t.kind=1):lJ (l++[n])=l++[n]:=by simp[lJ,pV h]
theorem MF(l:List Nd):(aH l).length<=l.length:=by
 induction l with
 |nil=>simp[aH]
 |cons n r ih=>unfold aH;split<;>simp<;>omega
theorem Yr(l:List Nd):l=[]\/∃i x,l=i++[x]:=by
 rcases List.eq_nil_or_concat l with h|⟨i,x,h⟩
 .exact .inl h
 .exact .inr ⟨i,x,by simpa using h⟩
theorem Ah:∀(a:List Nd) (n:Nd),depth (a++[n])=max (depth a) (eU n)
 |[],n=>by simp[depth]
 |m::r,n=>by simp[depth,Ah r n,Nat.max_assoc]
theorem Ai:∀(l:List Nd) (n:Nd),n∈l->eU n<=depth l
 |m::r,n,h=>by
  rcases List.mem_cons.1 h with rfl|h
  .simp only[depth];omega
  .have:=Ai r n h;simp only[depth];omega
theorem Qu{n:Nd}(h:closing n.t=aA):eU n=0:=by cases n;unfold eU;exact if_pos h
theorem xE{n:Nd}(h:¬closing n.t=aA):eU n=depth n.kids+1:=by cases n;unfold eU;exact if_neg h
theorem tN:∀(f:Nat) (e:BY) (ts:List Tok),(mY f e ts).1.length+(mY f e ts).2.length<=ts.length
 |0,_,ts=>by simp[mY]
 |f+1,_,[]=>by simp[mY]
 |f+1,e,t::r=>by
  unfold mY;split
  .simp
  .have h1:=tN f (closing t) r;by_cases hc:closing t=aA
   .have h2:=tN f e r;simp only[if_pos hc,List.length_cons];omega
   .have h2:=tN f e (mY f (closing t) r).2;simp only[if_neg hc,List.length_cons];omega
theorem uZ:∀(n f:Nat) (e:BY) (ts:List Tok),ts.length<=n->n<=f->mY f e ts=mY n e ts
 |0,f,e,ts,h,_=>by obtain rfl:ts=[]:=List.eq_nil_of_length_eq_zero AE;cases f<;>simp[mY]
 |n+1,0,_,_,_,h=>by omega
 |n+1,f+1,e,[],_,_=>by simp[mY]
 |n+1,f+1,e,t::r,h,hf=>by
  simp only[List.length_cons]at h;have h1:=uZ n f (closing t) r AE AE;have hl:=tN n (closing t) r;unfold mY;rw[h1];by_cases hc:closing t=aA
  .simp only[if_pos hc,uZ n f e r (by omega) (by omega)]
  .simp only[if_neg hc,uZ n f e (mY n (closing t) r).2 (by omega) (by omega)]
theorem afR(f:Nat)(e:BY)(ts:List Tok)(h:ts.length<=f):mY f e ts=kids e ts:=uZ _ _ _ _ (Nat.le_refl _) h
theorem jB(e:BY):kids e []=([],[]):=by simp[kids,mY]
theorem ab3(e:BY)(ts:List Tok):(kids e ts).1.length+(kids e ts).2.length<=ts.length:=tN _ _ _
theorem qW(t:Tok)(r:List Tok):(inside t r).1.length+(inside t r).2.length<=r.length:=by
 unfold inside;split
 .simp
 .exact ab3 _ _
theorem qX{e:BY}{t:Tok}{r:List Tok}(h:e≠aA/\au t e=true):kids e (t::r)=([],r):=by simp only[kids,List.length_cons];unfold mY;rw[if_pos h]
theorem iy{e:BY}{t:Tok}{r:List Tok}(h:¬(e≠aA/\au t e=true)):kids e (t::r)=(.mk t (inside t r).1::(kids e (inside t r).2).1,(kids e (inside t r).2).2):=by
 have hl:=qW t r;have e1:(if closing t=aA then([],r) else mY r.length (closing t) r)=inside t r:=rfl;rw[<-afR r.length e (inside t r).2 (by omega)];simp only[kids,List.length_cons];conv=>lhs;unfold mY
 rw[if_neg h];rw[e1]
theorem ZP(n:Nat):∀(e:BY) (ts:List Tok),ts.length<=n->∃k,k<=ts.length/\(kids e ts).2=ts.drop k:=by
 induction n with
 |zero=>intro e ts h;obtain rfl:ts=[]:=List.eq_nil_of_length_eq_zero AE;exact⟨0,by simp,by simp[jB]⟩
 |succ n ih=>
  intro e ts h;cases ts with
  |nil=>exact⟨0,by simp,by simp[jB]⟩
  |cons t r=>
   simp only[List.length_cons]at h;by_cases hc:e≠aA/\au t e=true
   .exact⟨1,by simp,by simp[qX hc]⟩
   .rw[iy hc];have hi:∃k,k<=r.length/\(inside t r).2=r.drop k:=by
     unfold inside;split
     .exact⟨0,by simp,by simp⟩
     .exact ih _ r AE
    obtain⟨k,hk,hk2⟩:=hi;obtain⟨m,hm,hm2⟩:=ih e (inside t r).2 (by rw[hk2];simp;omega);refine⟨k+m+1,?_,?_⟩
    .rw[hk2]at hm;simp at hm⊢;omega
    .show(kids e (inside t r).2).2=_;rw[hm2,hk2,List.drop_drop];rfl
theorem Fb(t:Tok)(r:List Tok):∃k,k<=r.length/\(inside t r).2=r.drop k:=by
 unfold inside;split
 .exact⟨0,by simp,by simp⟩
 .exact ZP _ _ r (Nat.le_refl _)
structure Par(p:aI):Prop where
 lt:∀e,e<p.length->parentOf p e<e
 root:∀e,e<p.length->parentOf p e<0->e=0
theorem Fv(p:aI)(q:Int)(k:Nat):gJ p q (k+1)=if parentOf p k=q then gJ p q k++[k] else gJ p q k:=rfl
theorem uh(p:aI)(q:Int):∀(k x:Nat),x∈gJ p q k->x<k
 |k+1,x,h=>by
  unfold gJ at h;split at h
  .rcases List.mem_append.1 h with h|h
   .have:=uh p q k x h;omega
   .simp at h;omega
  .have:=uh p q k x h;omega
theorem AB(p:aI)(q:Int):∀(k:Nat),(gJ p q k).length<=k
 |0=>by simp[gJ]
 |k+1=>by have:=AB p q k;unfold gJ;split<;>simp<;>omega
theorem ng{p:aI}{e:Nat}(h:e<p.length):parentOf p e=p[e].parent:=by unfold parentOf;rw[List.getElem?_eq_getElem h];rfl
theorem xM(s:BY):∀f i acc,(iK s f i acc).1.size<=acc.size+f/\acc.size<=(iK s f i acc).1.size
 |0,_,acc=>by simp[iK]
 |f+1,i,acc=>by
  unfold iK;by_cases h1:lX (pk s i)=true
  .rw[if_pos h1];have:=xM s f (i+1) (acc++one s i);rw[ByteArray.size_append,iQ (dY (uV h1))]at this;omega
  .rw[if_neg h1];by_cases h2:kY s i=true
   .rw[if_pos h2];have:=xM s f (esc s i).2 (acc++(esc s i).1);rw[ByteArray.size_append,kN]at this;omega
   .rw[if_neg h2];simp
theorem sO(s:BY)(i:Nat):(name s i).1.size<=s.size:=by have:=(xM s s.size i ByteArray.empty).1;simp at this;exact this
theorem CG{s:BY}{i:Nat}(h:jT s i=true)(hs:0<s.size):0<(name s i).1.size:=by
 unfold name;obtain⟨f,hf⟩:∃f,s.size=f+1:=⟨s.size-1,by omega⟩;rw[hf];unfold iK;unfold jT at h;by_cases h1:lX (pk s i)=true
 .rw[if_pos h1];have:=(xM s f (i+1) (ByteArray.empty++one s i)).2;rw[ByteArray.size_append,iQ (dY (uV h1))]at this;omega
 .rw[if_neg h1];have h2:kY s i=true:=by simpa[h1]using h
  rw[if_pos h2];have:=(xM s f (esc s i).2 (ByteArray.empty++(esc s i).1)).2;rw[ByteArray.size_append,kN]at this;omega
theorem qK(s:BY)(q:Int):∀f i acc,(lK s q f i acc).1.word.size<=acc.size+f
 |0,_,acc=>by simp[lK,Tok.w]
 |f+1,i,acc=>by
  unfold lK;by_cases h0:s.size<=i
  .rw[if_pos h0];simp[Tok.w]
  rw[if_neg h0];by_cases h1:pk s i=q
  .rw[if_pos h1];simp[Tok.w]
  rw[if_neg h1];by_cases h2:pk s i=10
  .rw[if_pos h2];simp[Tok.k]
  rw[if_neg h2];by_cases h3:pk s i=92
  .rw[if_pos h3];by_cases h4:s.size<=i+1
   .rw[if_pos h4];have:=qK s q f (i+1) acc;omega
   rw[if_neg h4];by_cases h5:pk s (i+1)=10
   .rw[if_pos h5];have:=qK s q f (i+2) acc;omega
   rw[if_neg h5];have:=qK s q f (esc s i).2 (acc++(esc s i).1);rw[ByteArray.size_append,kN]at this;omega
  rw[if_neg h3];have:=qK s q f (i+1) (acc++one s i);rw[ByteArray.size_append,iQ (by omega)]at this;omega
theorem vI(s:BY):∀f i acc,(jd s f i acc).1.word.size<=acc.size+f
 |0,_,acc=>by simp[jd,Tok.w]
 |f+1,i,acc=>by
  unfold jd;by_cases h0:s.size<=i
  .rw[if_pos h0];simp[Tok.w]
  rw[if_neg h0];by_cases h1:pk s i=41
  .rw[if_pos h1];simp[Tok.w]
  rw[if_neg h1];by_cases h2:aO (pk s i)=true
  .rw[if_pos h2];by_cases h3:s.size<=blk s i
   .rw[if_pos h3];simp[Tok.w]
   rw[if_neg h3];by_cases h4:pk s (blk s i)=41
   .rw[if_pos h4];simp[Tok.w]
   rw[if_neg h4];simp[Tok.k]
  rw[if_neg h2];by_cases h3:kY s i=true
  .rw[if_pos h3];have:=vI s f (esc s i).2 (acc++(esc s i).1);rw[ByteArray.size_append,kN]at this;omega
  rw[if_neg h3];by_cases h4:Eb (pk s i)=true
  .rw[if_pos h4];simp[Tok.k]
  rw[if_neg h4];have:=vI s f (i+1) (acc++one s i);rw[ByteArray.size_append,iQ (by omega)]at this;omega
theorem lu(s:BY)(q:Int):∀f i acc,((lK s q f i acc).1.kind=2\/(lK s q f i acc).1.kind=3)/\(lK s q f i acc).1.unit=ByteArray.empty
 |0,_,acc=>by simp[lK,Tok.w]
 |f+1,i,acc=>by
  unfold lK;split
  .simp[Tok.w]
  split
  .simp[Tok.w]
  split
  .simp[Tok.k]
  split
  .split
   .exact lu s q f _ _
   split
   .exact lu s q f _ _
   .exact lu s q f _ _
  .exact lu s q f _ _
theorem mQ(s:BY):∀f i acc,((jd s f i acc).1.kind=12\/(jd s f i acc).1.kind=13)/\(jd s f i acc).1.unit=ByteArray.empty
 |0,_,acc=>by simp[jd,Tok.w]
 |f+1,i,acc=>by
  unfold jd;split
  .simp[Tok.w]
  split
  .simp[Tok.w]
  split
  .split
   .simp[Tok.w]
   split
   .simp[Tok.w]
   .simp[Tok.k]
  split
  .exact mQ s f _ _
  split
  .simp[Tok.k]
  .exact mQ s f _ _
theorem dI.k{n:Int}(h5:n≠5)(h7:n≠7)(h15:n≠15)(hn:¬(n=4\/n=10\/n=11\/n=14)):dI (Tok.k n):=⟨by simp[Tok.k],by simp[Tok.k],fun h=>absurd h h5,fun h=>absurd h h7,fun h=>absurd h h15,fun h=>absurd h hn⟩
theorem dI.w{n:Int}{x:BY}(hx:x.size<=1000)(h5:n≠5)(h7:n≠7)(h15:n≠15)(hn:(n=4\/n=10\/n=11\/n=14)->0<x.size):dI (Tok.w n x):=⟨by show x.size<=_;omega,by simp[Tok.w],fun h=>absurd h h5,fun h=>absurd h h7,fun h=>absurd h h15,hn⟩
theorem VE{s:BY}{i:Nat}(hi:i<s.size)(hs:s.size<=1000)(h:iO s i=true):dI (numeric s i).1:=by
 have h1:=yY h;have h2:=yX (s:=s) (i:=i) AE;have hz:(s.extract i (bT s i)).size=bT s i-i:=by simp;omega
 unfold numeric;simp only;by_cases h37:pk s (bT s i)=37
 .rw[if_pos h37];exact dI.w (by rw[hz];omega) AE AE AE AE
 rw[if_neg h37];by_cases hb:iG s (bT s i)=true
 .rw[if_pos hb];have hn:=sO s (bT s i);exact⟨by rw[hz];omega,by show(name s (bT s i)).1.size<=_;omega,fun h=>by simp at h,fun _=>CG (xu hb) AE,fun h=>by simp at h,fun h=>by simp at h⟩
 .rw[if_neg hb];exact⟨by show(s.extract i (bT s i)).size<=_;rw[hz];omega,by simp[Tok.w],fun _=>by show 0<(s.extract i (bT s i)).size;rw[hz];omega,fun h=>by simp[Tok.w]at h,fun h=>by simp[Tok.w]at h,fun h=>by simp[Tok.w]at h⟩
theorem named_ok{s:BY}{i:Nat}(hs:s.size<=1000)(hb:iG s i=true)(hi:i<s.size):dI (named s i).1:=by
 have hn:=sO s i;have hp:=CG (xu hb) AE;unfold named;simp only;split
 .split
  .have h1:=vI s s.size (blk s ((name s i).2+1)) ByteArray.empty;have h2:=mQ s s.size (blk s ((name s i).2+1)) ByteArray.empty;simp at h1;unfold link;refine⟨by omega,by rw[h2.2];simp,fun h=>?_,fun h=>?_,fun h=>?_,fun h=>?_⟩<;>(rcases h2.1 with e|e<;>rw[e]at h<;>simp at h)
  .exact dI.w AE AE AE AE (fun _=>hp)
 .exact dI.w AE AE AE AE (fun _=>hp)
theorem acv{s:BY}{i:Nat}(hi:i<s.size)(hs:s.size<=1000):dI (token s i).1:=by
 unfold token;split
 .exact dI.k AE AE AE AE
 split
 .have h1:=qK s (pk s i) s.size (i+1) ByteArray.empty;have h2:=lu s (pk s i) s.size (i+1) ByteArray.empty;simp at h1;unfold txt;refine⟨by omega,by rw[h2.2];simp,fun h=>?_,fun h=>?_,fun h=>?_,fun h=>?_⟩<;>(rcases h2.1 with e|e<;>rw[e]at h<;>simp at h)
 split
 .rename_i h35;have:=sO s (i+1);exact dI.w AE AE AE AE (fun _=>CG h35.2 AE)
 split
 .exact VE hi hs ‹_›
 split
 .exact dI.k AE AE AE AE
 split
 .exact dI.k AE AE AE AE
 split
 .rename_i h64;have:=sO s (i+1);exact dI.w AE AE AE AE (fun _=>CG (xu h64.2) AE)
 split
 .exact named_ok hs ‹_› hi
 .have:=iQ hi;exact⟨by show(one s i).size<=_;omega,by simp[Tok.w],fun h=>by simp[Tok.w]at h,fun h=>by simp[Tok.w]at h,fun _=>this,fun h=>by simp[Tok.w]at h⟩
theorem Yy{s:BY}(hs:s.size<=1000):∀f i,i<=s.size->∀t∈tokF s f i,dI t
 |0,_,_,t,h=>by simp[tokF]at h
 |f+1,i,hi,t,h=>by
  unfold tokF at h;by_cases h0:s.size<=i
  .rw[if_pos h0]at h;simp at h
  .rw[if_neg h0]at h;rcases List.mem_cons.1 h with e|e
   .rw[e];exact acv AE hs
   .exact Yy hs f _ (Af (xB AE)) t e
theorem Oz{s:BY}(hs:s.size<=1000):∀t∈toks s,dI t:=Yy hs _ _ (Af (Nat.zero_le _))
theorem Eo:∀(p:aI) (i k:Nat) (_:gI i p=true) (h:k<p.length),xC (i+k) p[k]=true
 |x::r,i,0,h,_=>by simp[gI]at h;simpa using h.1
 |x::r,i,k+1,h,hk=>by simp[gI]at h;have:=Eo r (i+1) k h.2 (by simpa using hk);rw[show i+(k+1)=i+1+k from by omega];simpa using this
theorem Ij{p:aI}(h:iL p=true):Par p:=by
 unfold iL at h;simp at h;have key:∀e,(he:e<p.length)->(e=0/\p[e].parent = -1)\/(e≠0/\0<=p[e].parent/\p[e].parent<e):=by
  intro e he;have h1:=Eo p 0 e h.2 he;rw[Nat.zero_add]at h1;unfold xC at h1;simp only[Bool.and_eq_true]at h1;have h2:=h1.1.1.2;by_cases h0:e=0
  .rw[if_pos h0]at h2;exact .inl ⟨h0,by simpa using h2⟩
  .rw[if_neg h0]at h2;simp at h2;exact .inr ⟨h0,h2⟩
 refine⟨fun e he=>?_,fun e he hn=>?_⟩
 .rw[ng he];rcases key e he with h1|h1<;>omega
 .rw[ng he]at hn;rcases key e he with h1|h1<;>omega
def aaR(t:Tok):Prop:=t.kind=5\/t.kind=6\/t.kind=7->LX t.word
def adw(r:List Tok):Prop:=∃t r',(t.kind=2\/t.kind=3)/\(r=t::r'\/∃b,b.kind=1/\r=b::t::r')
def uT:List Tok->Prop
 |[]=>True
 |t::r=>(aaR t/\(t.kind=11->small t.word=url->adw r))/\uT r
theorem Y3:∀(l:List Tok) (k:Nat),uT l->uT (l.drop k)
 |[],k,_=>by simp[uT]
 |t::r,0,h=>h
 |t::r,k+1,h=>Y3 r k h.2
theorem SS{s:BY}{i:Nat}(hi:i<=s.size)(h:iO s i=true):aaR (numeric s i).1/\(numeric s i).1.kind≠11:=by
 have hw:=adr hi h;unfold numeric;simp only;split
 .exact⟨fun _=>hw,by simp[Tok.w]⟩
 .split
  .exact⟨fun _=>hw,by simp⟩
  .exact⟨fun _=>hw,by simp[Tok.w]⟩
theorem aaS{s:BY}{i:Nat}(hi:i<=s.size):aaR (token s i).1/\((token s i).1.kind=11->token s i=named s i):=by
 unfold token;split
 .exact⟨fun h=>by simp[Tok.k]at h,fun h=>by simp[Tok.k]at h⟩
 .split
  .have:=(lu s (pk s i) s.size (i+1) ByteArray.empty).1;unfold txt;exact⟨fun h=>by omega,fun h=>by omega⟩
  .split
   .exact⟨fun h=>by simp[Tok.w]at h,fun h=>by simp[Tok.w]at h⟩
   .split
    .rename_i h;have:=SS hi h;exact⟨this.1,fun h=>absurd h this.2⟩
    .split
     .exact⟨fun h=>by simp[Tok.k]at h,fun h=>by simp[Tok.k]at h⟩
     .split
      .exact⟨fun h=>by simp[Tok.k]at h,fun h=>by simp[Tok.k]at h⟩
      .split
       .exact⟨fun h=>by simp[Tok.w]at h,fun h=>by simp[Tok.w]at h⟩
       .split
        .refine⟨fun h=>?_,fun _=>rfl⟩;exfalso
         unfold named at h;simp only at h;split at h
         .split at h
          .unfold link at h;have:=(mQ s s.size (blk s ((name s i).2+1)) ByteArray.empty).1;omega
          .simp[Tok.w]at h
         .simp[Tok.w]at h
        .exact⟨fun h=>by simp[Tok.w]at h,fun h=>by simp[Tok.w]at h⟩
theorem aaT{s:BY}{i:Nat}(h:(named s i).1.kind=11)(hu:small (named s i).1.word=url):(named s i).2=(name s i).2+1/\dD (pk s (blk s ((name s i).2+1)))=true:=by
 unfold named at h hu⊢;simp only at h hu⊢;by_cases Gt:pk s (name s i).2=40
 .rw[if_pos Gt]at h hu⊢;by_cases hq:small (name s i).1=url/\dD (pk s (blk s ((name s i).2+1)))=false
  .rw[if_pos hq]at h;unfold link at h;have:=(mQ s s.size (blk s ((name s i).2+1)) ByteArray.empty).1;omega
  .rw[if_neg hq]at hu⊢;refine⟨rfl,?_⟩;by_cases hh:dD (pk s (blk s ((name s i).2+1)))=true
   .exact hh
   .exact absurd ⟨hu,by simpa using hh⟩ hq
 .rw[if_neg Gt]at h;simp[Tok.w]at h
theorem aaU{s:BY}{i:Nat}(h:dD (pk s i)=true):((token s i).1.kind=2\/(token s i).1.kind=3)/\com s i=i:=by
 have hb:aO (pk s i)=false:=by unfold dD at h;unfold aO;simp at h⊢;omega
 refine⟨?_,kW fun hh=>by rw[hh.1]at h;exact absurd h (by decide)⟩;unfold token;rw[hb,if_neg (by simp),if_pos h];exact(lu s (pk s i) s.size (i+1) ByteArray.empty).1
theorem aaV{s:BY}{j f:Nat}(hq:dD (pk s (blk s j))=true)(hf:s.size<=j+f):adw (tokF s f (com s j)):=by
 have hge:=Ee s j;have hlt:blk s j<s.size:=dY (abU hq);have hqt:=aaU hq;by_cases hb:aO (pk s j)=true
 .have hgt:=Vp hb;have hc:com s j=j:=kW fun hh=>by rw[hh.1]at hb;exact absurd hb (by decide)
  obtain⟨f,rfl⟩:∃g,f=g+1:=⟨f-1,by omega⟩;obtain⟨f,rfl⟩:∃g,f=g+1:=⟨f-1,by omega⟩;have ht:token s j=(Tok.k 1,blk s j):=by unfold token;rw[if_pos hb]
  rw[hc];unfold tokF;rw[if_neg (by omega),ht];simp only;rw[hqt.2];unfold tokF;rw[if_neg (by omega)];exact⟨_,_,hqt.1,.inr ⟨Tok.k 1,rfl,rfl⟩⟩
 .have e:=SN (s:=s) (i:=j) (by simpa using hb);rw[e]at hqt hlt;obtain⟨f,rfl⟩:∃g,f=g+1:=⟨f-1,by omega⟩;rw[hqt.2];unfold tokF;rw[if_neg (by omega)];exact⟨_,_,hqt.1,.inl rfl⟩
theorem adx{s:BY}:∀f i,s.size<=i+f->uT (tokF s f i)
 |0,i,_=>by simp[tokF,uT]
 |f+1,i,h=>by
  unfold tokF;by_cases hi:s.size<=i
  .rw[if_pos hi];simp[uT]
  .rw[if_neg hi];have hgt:=xA (s:=s) (i:=i) AE;have hle:=xB (s:=s) (i:=i) AE;have hcg:=Vq hle;have hn:=aaS (s:=s) (i:=i) AE;refine⟨⟨hn.1,fun hk hu=>?_⟩,adx f _ AE⟩;have e:=hn.2 hk;rw[e]at hk hu;obtain⟨h2,h3⟩:=aaT hk hu;rw[e,h2]at hgt⊢;exact aaV h3 AE
theorem ajy(s:BY):uT (toks s):=adx _ _ AE
def Y4(k:List Nd):Prop:=∃n r',(n.t.kind=2\/n.t.kind=3)/\(k=n::r'\/∃b,b.t.kind=1/\k=b::n::r')
mutual
def uN:Nd->Prop
 |.mk t k=>(aaR t/\(t.kind=11->small t.word=url->Y4 k))/\uL k
def uL:List Nd->Prop
 |[]=>True
 |n::r=>uN n/\uL r
end
theorem OU:∀(l:List Nd),uL l↔∀n∈l,uN n
 |[]=>by simp[uL]
 |m::r=>by simp[uL,OU r]
theorem OV{a b:List Nd}(h:uL b)(hs:∀n∈a,n∈b):uL a:=(OU a).2 fun n hn=>(OU b).1 h n (hs n hn)
theorem JD{t:Tok}(h:t.kind≠15)(e:BY):¬(e≠aA/\au t e=true):=fun hh=>by have:=hh.2;unfold au at this;simp[h]at this
theorem wu{t:Tok}(h:t.kind≠15)(h':t.kind≠11):closing t=aA:=by unfold closing;rw[if_neg h',if_neg h]
theorem sU{t:Tok}(h:closing t=aA)(r:List Tok):inside t r=([],r):=by unfold inside;rw[if_pos h]
theorem aaW{e:BY}{ts:List Tok}(h:adw ts):Y4 (kids e ts).1:=by
 obtain⟨t,r',ht,h|⟨b,hb,h⟩⟩:=h
 .rw[h,iy (JD (by omega) e),sU (wu (by omega) (by omega))];exact⟨.mk t [],_,ht,.inl rfl⟩
 .rw[h,iy (JD (by omega) e),sU (wu (by omega) (by omega)),iy (JD (by omega) e),sU (wu (by omega) (by omega))];exact⟨.mk t [],_,ht,.inr ⟨.mk b [],hb,rfl⟩⟩
theorem ajA(n:Nat):∀(e:BY) (ts:List Tok),ts.length<=n->uT ts->uL (kids e ts).1:=by
 induction n with
 |zero=>intro e ts h _;obtain rfl:ts=[]:=List.eq_nil_of_length_eq_zero AE;simp[jB,uL]
 |succ n ih=>
  intro e ts h hok;cases ts with
  |nil=>simp[jB,uL]
  |cons t r=>
   simp only[List.length_cons]at h;by_cases hc:e≠aA/\au t e=true
   .simp[qX hc,uL]
   .rw[iy hc];have hl:=qW t r;obtain⟨k,hk,hk2⟩:=Fb t r;have h1:uL (inside t r).1:=by
     unfold inside;split
     .simp[uL]
     .exact ih _ r AE hok.2
    have h2:uL (kids e (inside t r).2).1:=ih e _ AE (by rw[hk2];exact Y3 _ _ hok.2);refine⟨⟨⟨hok.1.1,fun hk hu=>?_⟩,h1⟩,h2⟩;have hh:=hok.1.2 hk hu;unfold inside;rw[if_neg (by unfold closing;rw[if_pos hk];decide)];exact aaW hh
theorem agF(s:BY):uL (bH s):=ajA _ _ _ (Nat.le_refl _) (ajy _)
section
def bt(w:BY):UInt8:=w.data.toList.headD 0
theorem Xe{w:BY}(h:w.size=1):w.data.toList=[bt w]/\w=b1 (bt w):=by
 have h1:w.data.toList.length=1:=h;have h2:w.data.toList=[bt w]:=by
  unfold bt;match w.data.toList,h1 with
  |[c],_=>rfl
 refine⟨h2,?_⟩;apply ByteArray.ext
 apply Array.toList_inj.1
 rw[h2];rfl
def SV(t:Tok):List Pc:=if closing t=aA then [] else [.sign (bt (closing t))]
def LY(t:Tok)(inn:List Pc):List Pc:=
 if t.kind=1 then [.blank]
 else if t.kind=2 then [.text t.word]
 else if t.kind=4 then [.hash t.word]
 else if t.kind=6 then [.pct t.word]
 else if t.kind=7 then [.dim t.word t.unit]
 else if t.kind=11 then .func t.word::(inn++[.sign 41])
 else if t.kind=14 then [.ident t.word]
 else if t.kind=15 then .sign (bt t.word)::(inn++SV t)
 else [.num t.word]
def SX(a:Option Tok)(b:Tok):List Pc:=match a with|none=>[]|some a=>if parts a b=true then [.com] else []
mutual
def pcN:Nd->List Pc
 |.mk t k=>LY t (zZ none k)
def zZ:Option Tok->List Nd->List Pc
 |_,[]=>[]
 |a,n::r=>(if Ak a n.t=true then [] else SX a n.t++pcN n)++zZ (some n.t) r
end
theorem Bc(n:Nd):pcN n=LY n.t (zZ none n.kids):=by cases n;simp[pcN]
theorem zl(a:Option Tok):zZ a []=[]:=by unfold zZ;rfl
theorem rQ(a:Option Tok)(n:Nd)(r:List Nd):zZ a (n::r)=(if Ak a n.t=true then [] else SX a n.t++pcN n)++zZ (some n.t) r:=by conv=>lhs;unfold zZ
structure vT(p:aF)(t:Tok)(k:List Nd):Prop where
 ok:dI t
 kd:1<=t.kind/\t.kind<=15
 harm:oI p t=true
 num:aaR t
 url:t.kind=11->small t.word=url->Y4 k
 leaf:closing t=aA->k=[]
mutual
def vN(p:aF):Nd->Prop
 |.mk t k=>vT p t k/\vL p k
def vL(p:aF):List Nd->Prop
 |[]=>True
 |n::r=>vN p n/\vL p r
end
theorem EJ(p:aF)(n:Nd):vN p n↔vT p n.t n.kids/\vL p n.kids:=by cases n;simp[vN]
theorem Xf(p:aF):∀(l:List Nd),vL p l↔∀n∈l,vN p n
 |[]=>by simp[vL]
 |m::r=>by simp[vL,Xf p r]
theorem vT.kinds{p:aF}{t:Tok}{k:List Nd}(h:vT p t k):t.kind=1\/t.kind=2\/t.kind=4\/t.kind=5\/t.kind=6\/t.kind=7\/t.kind=11\/t.kind=14\/t.kind=15:=by
 have h1:=h.kd;have h2:=h.harm;unfold oI at h2;split at h2
 .cases h2
 .omega
theorem jo{t:Tok}(h:t.kind=15):(closing t=aA\/(t.word=b1 40/\closing t=b1 41)\/(t.word=b1 91/\closing t=b1 93)\/(t.word=b1 123/\closing t=b1 125)):=by
 unfold closing;rw[if_neg (by omega),if_pos h];split
 .rename_i e;exact .inr (.inl ⟨e,rfl⟩)
 .split
  .rename_i e;exact .inr (.inr (.inl ⟨e,rfl⟩))
  .split
   .rename_i e;exact .inr (.inr (.inr ⟨e,rfl⟩))
   .exact .inl rfl
theorem OW(c:UInt8):b1 c≠aA:=fun h=>by have h2:(1:Nat)=0:=congrArg ByteArray.size h;omega
theorem ady{t:Tok}(h:t.kind=15):(closing t).data.toList=flat (SV t):=by unfold SV;rcases jo h with e|⟨_,e⟩|⟨_,e⟩|⟨_,e⟩<;>rw[e]<;>rfl
mutual
theorem adz(p:aF):∀(n:Nd),vN p n->(iM n).data.toList=flat (pcN n)
 |.mk t k,h=>by
  simp only[vN]at h;have ih:=Dw p none k h.2;unfold iM pcN LY Qy;rcases h.1.kinds with e|e|e|e|e|e|e|e|e
  .rw[if_pos e,if_pos e];rfl
  .rw[if_neg (by omega),if_pos e,if_neg (by omega),if_pos e,YW];simp[flat,Pc.bytes]
  .rw[if_neg (by omega),if_neg (by omega),if_neg (by omega),if_pos e,if_neg (by omega),if_neg (by omega),if_pos e,kV,pR];simp[flat,Pc.bytes,b1]
  .simp only[e];simp[flat,Pc.bytes]
  .simp only[e];simp[flat,Pc.bytes,b1]
  .simp only[e];simp[flat,Pc.bytes,agE]
  .simp only[e];simp[flat,Pc.bytes,pR,aN,ih,b1]
  .simp only[e];simp[flat,Pc.bytes,pR]
  .have hw:=Xe (h.1.ok.sign e);have hc:=ady e;simp only[e];simp[flat,Pc.bytes,aN,ih,hw.1,hc]
theorem Dw(p:aF):∀(a:Option Tok) (l:List Nd),vL p l->(l9 a l).data.toList=flat (zZ a l)
 |_,[],_=>by unfold l9 zZ;rfl
 |a,n::r,h=>by
  simp only[vL]at h;have h1:=adz p n h.1;have h2:=Dw p (some n.t) r h.2;unfold l9 zZ;rw[kV,aN,h2];congr 1
  split
  .rfl
  .rw[kV,aN,h1];congr 1
   cases a with
   |none=>rfl
   |some a=>show(if parts a n.t=true then og else aA).data.toList=flat (if parts a n.t=true then [Pc.com] else []);split<;>rfl
end
def SY(c:Int):Bool:=c == -1||c==32||c==44||c==58||c==59||c==41||c==93||c==125||c==91||c==123||c==47||c==33
theorem zn{c:Int}(h:SY c=true):lX c=false/\c≠92/\c≠40/\c≠62/\nT c/\c≠37/\kK c=false/\c≠45/\fG c=false/\c≠46/\c≠42:=by unfold SY at h;simp only[Bool.or_eq_true,beq_iff_eq]at h;unfold nT;rcases h with ((((((((((h|h)|h)|h)|h)|h)|h)|h)|h)|h)|h)|h<;>rw[h]<;>decide
def LZ(r:List UInt8):Prop:=SY (jy r)=true/\jy r≠32
theorem Xg{w:BY}(h:LX w)(X:List UInt8):aO (jy (w.data.toList++X))=false/\jy (w.data.toList++X)≠47:=by
 have hb:=(h w 0 [] ⟨Nat.zero_le _,by simp⟩ (show nT (-1) by unfold nT;decide)).1;have hf:=Nv hb;rw[(At.zero w).hd]at hf;cases hl:w.data.toList with
 |nil=>
  exfalso
  have:w=ByteArray.empty:=by apply ByteArray.ext;apply Array.toList_inj.1;rw[hl];rfl
  rw[this]at hb;revert hb;decide
 |cons c l=>rw[hl]at hf;exact⟨hf.1,hf.2.2.2⟩
theorem Dx{w:BY}(hw:0<w.size)(X:List UInt8):aO (jy (gZ w++X))=false/\jy (gZ w++X)≠47/\fG (jy (gZ w++X))=false:=by obtain⟨c,l,hc,hcc⟩:=Jz hw X;rw[hc];have hn:=yx (c:=(c.toNat:Int)) (hcc.elim (fun h=>.inr (.inr h)) (fun h=>h.elim (fun h=>.inr (.inl h)) .inl));exact⟨hn.1,hn.2.2.2.2.2.2.2.1,hn.2.2.2.2.2.2.2.2⟩
theorem OX{p:aF}{t:Tok}{k:List Nd}(h:vT p t k)(e:t.kind=15):bt t.word∈lT/\(closing t≠aA->bt t.word=40\/bt t.word=91\/bt t.word=123):=by
 have hh:=h.harm;unfold oI at hh;rw[if_neg (by omega),if_pos e]at hh;rcases jo e with c|⟨c,_⟩|⟨c,_⟩|⟨c,_⟩
 .rw[c]at hh;refine⟨?_,fun h=>absurd c h⟩;simp only[decide_true,Bool.not_true,Bool.false_or]at hh;unfold vk at hh;simp only[Bool.or_eq_true,decide_eq_true_eq]at hh;rcases hh with (((((((h|h)|h)|h)|h)|h)|h)|h)|h<;>rw[h]<;>decide
 .rw[c];exact⟨by decide,fun _=>by decide⟩
 .rw[c];exact⟨by decide,fun _=>by decide⟩
 .rw[c];exact⟨by decide,fun _=>by decide⟩
section
variable {t:Tok} (inn:List Pc)
theorem Y5(e:t.kind=1):LY t inn=[.blank]:=by simp[LY,e]
theorem Tc(e:t.kind=2):LY t inn=[.text t.word]:=by simp[LY,e]
theorem adA(e:t.kind=4):LY t inn=[.hash t.word]:=by simp[LY,e]
theorem adB(e:t.kind=5):LY t inn=[.num t.word]:=by simp[LY,e]
theorem adC(e:t.kind=6):LY t inn=[.pct t.word]:=by simp[LY,e]
theorem adD(e:t.kind=7):LY t inn=[.dim t.word t.unit]:=by simp[LY,e]
theorem Xh(e:t.kind=11):LY t inn=.func t.word::(inn++[.sign 41]):=by simp[LY,e]
theorem Xi(e:t.kind=14):LY t inn=[.ident t.word]:=by simp[LY,e]
theorem EK(e:t.kind=15):LY t inn=.sign (bt t.word)::(inn++SV t):=by simp[LY,e]
end
theorem nU(q:Pc)(X:List UInt8):flat [q]++X=q.bytes++X:=by simp[flat]
theorem qM(q:Pc)(l:List Pc)(X:List UInt8):flat (q::l)++X=q.bytes++(flat l++X):=by simp[flat]
theorem Xj{p:aF}{n:Nd}(h:vN p n)(hk:n.t.kind≠1)(X:List UInt8):aO (jy (flat (pcN n)++X))=false/\(jy (flat (pcN n)++X)=47->n.t.kind=15/\bt n.t.word=47/\pcN n=[.sign 47]):=by
 have hv:=((EJ p n).1 h).1;rw[Bc];rcases hv.kinds with e|e|e|e|e|e|e|e|e
 .exact absurd e hk
 .rw[Tc _ e,nU];exact⟨show aO 34=false by decide,fun h=>absurd h (show(34:Int)≠47 by decide)⟩
 .rw[adA _ e,nU];exact⟨show aO 35=false by decide,fun h=>absurd h (show(35:Int)≠47 by decide)⟩
 .rw[adB _ e,nU];have:=Xg (hv.num (.inl e)) X;exact⟨this.1,fun h=>absurd h this.2⟩
 .rw[adC _ e,nU];have:=Xg (hv.num (.inr (.inl e))) ([37]++X);rw[<-List.append_assoc]at this;exact⟨this.1,fun h=>absurd h this.2⟩
 .rw[adD _ e,nU];have:=Xg (hv.num (.inr (.inr e))) (oJ n.t.unit++X);rw[<-List.append_assoc]at this;exact⟨this.1,fun h=>absurd h this.2⟩
 .rw[Xh _ e,qM];have:=Dx (hv.ok.named (.inr (.inr (.inl e)))) ([40]++(flat (zZ none n.kids++[.sign 41])++X));rw[<-List.append_assoc]at this;exact⟨this.1,fun h=>absurd h this.2.1⟩
 .rw[Xi _ e,nU];have:=Dx (hv.ok.named (.inr (.inr (.inr e)))) X;exact⟨this.1,fun h=>absurd h this.2.1⟩
 .have hs:=OX hv e;have hf:=JA _ hs.1;rw[EK _ e,qM];refine⟨hf.1,fun h=>?_⟩;have h47:((bt n.t.word).toNat:Int)=47:=h;have e47:bt n.t.word=47:=UInt8.toNat_inj.1 (by simpa using(show(bt n.t.word).toNat=47 by omega));have hc:closing n.t=aA:=by
   by_cases hc:closing n.t=aA
   .exact hc
   .have:=hs.2 hc;rw[e47]at this;exact absurd this (by decide)
  refine⟨e,e47,?_⟩;rw[hv.leaf hc,zl];simp[SV,hc,e47]
theorem aiq{p:aF}{r:List UInt8}(hr:LZ r):∀(l:List Nd) (a:Tok),vL p l ->
  (a.kind=1->aO (jy (flat (zZ (some a) l)++r))=false)/\(oH a=false->closing a=aA->SY (jy (flat (zZ (some a) l)++r))=true)
 |[],a,_=>by rw[zl];refine⟨fun _=>?_,fun _ _=>hr.1⟩;have h1:=hr.1;have h2:=hr.2;show aO (jy r)=false;unfold SY at h1;simp only[Bool.or_eq_true,beq_iff_eq]at h1;unfold aO;simp;omega
 |n::l,a,h=>by
  simp only[vL]at h;have ih:=aiq hr l n.t h.2;rw[rQ];refine⟨fun ha=>?_,fun hs hc=>?_⟩
  .by_cases hn:n.t.kind=1
   .rw[if_pos (by unfold Ak;simp[ha,hn])];exact ih.1 hn
   .rw[if_neg (by unfold Ak;simp[hn])];have hg:SX (some a) n.t=[]:=by
     show(if parts a n.t=true then [Pc.com] else [])=[];rw[if_neg (by unfold parts oH;simp[ha])]
    rw[hg,List.nil_append,aN,List.append_assoc];exact(Xj h.1 hn _).1
  .have ha:a.kind≠1:=fun e=>by unfold oH at hs;simp[e]at hs
   rw[if_neg (by unfold Ak;simp[ha])];by_cases hp:parts a n.t=true
   .have hg:SX (some a) n.t=[.com]:=by show(if parts a n.t=true then [Pc.com] else [])=_;rw[if_pos hp]
    rw[hg];rfl
   .have hg:SX (some a) n.t=[]:=by show(if parts a n.t=true then [Pc.com] else [])=_;rw[if_neg hp]
    rw[hg,List.nil_append,aN,List.append_assoc,Bc];unfold parts at hp;rw[hs,hc]at hp;simp only[Bool.not_false,Bool.true_and,decide_true,Bool.and_true,Bool.and_eq_true,Bool.not_eq_true',not_and,Bool.not_eq_false]at hp;by_cases hsn:oH n.t=true
    .unfold oH at hsn;simp only[Bool.or_eq_true,Bool.and_eq_true,decide_eq_true_eq]at hsn;rcases hsn with e|⟨e,hw⟩
     .rw[Y5 _ e];rfl
     .rw[EK _ e,qM];unfold Yt at hw;simp only[Bool.or_eq_true,decide_eq_true_eq]at hw;rcases hw with ((((h|h)|h)|h)|h)|h<;>rw[h]<;>rfl
    .have amU:oH n.t=false:=by simpa using hsn
     by_cases KO:au n.t (b1 91)=true
     .unfold au at KO;simp only[Bool.and_eq_true,decide_eq_true_eq]at KO;rw[EK _ KO.1,qM,KO.2];rfl
     .have He:=hp ⟨amU,by simpa using KO⟩;unfold au at He;simp only[Bool.and_eq_true,decide_eq_true_eq]at He;rw[EK _ He.1,qM,He.2];rfl
theorem rU{q:Pc}{X:List UInt8}(hq:q≠.blank)(hc:q≠.com)(hf:∀w,q≠.func w)(h:SY (jy X)=true):q.stop X:=by
 obtain⟨h1,h2,h3,h4,h5,h6,h7,h8,h9,h10,h11⟩:=zn h;match q,hq,hc,hf with
 |.blank,hq,_,_=>exact absurd rfl hq
 |.text w,_,_,_=>trivial
 |.hash w,_,_,_=>exact⟨h1,h2⟩
 |.num w,_,_,_=>exact⟨h5,h6,h7,h8,h2⟩
 |.pct w,_,_,_=>trivial
 |.dim w u,_,_,_=>exact⟨h1,h2⟩
 |.at_ w,_,_,_=>exact⟨h1,h2⟩
 |.ident w,_,_,_=>exact⟨⟨h1,h2⟩,h3,h4⟩
 |.func w,_,_,hf=>exact absurd rfl (hf w)
 |.sign c,_,_,_=>exact⟨fun _=>⟨h9,h10⟩,fun _=>h9,fun _=>⟨h9,h10,h7,h8,h2⟩,fun _=>h11⟩
 |.com,_,hc,_=>exact absurd rfl hc
theorem pF{c:UInt8}(X:List UInt8)(h:c≠43/\c≠45/\c≠46/\c≠47):(Pc.sign c).stop X:=⟨fun e=>absurd e h.1,fun e=>absurd e h.2.2.1,fun e=>absurd e h.2.1,fun e=>absurd e h.2.2.2⟩
theorem ajB{w:BY}(h:small (vZ w)=url):small w=url/\vZ w=w:=by
 have h1:((w.data.toList.map zq).map jr)=[117,114,108]:=by have:=congrArg (fun x=>x.data.toList) h;simpa[small,vZ,url]using this
 have h2:∀c∈w.data.toList,zq c=c:=by
  intro c hc;have hm:jr (zq c)∈[117,114,108]:=by rw[<-h1];exact List.mem_map_of_mem (List.mem_map_of_mem hc)
  unfold zq at hm⊢;split at hm
  .exact absurd hm (by decide)
  .rename_i hz;rw[if_neg hz]
 have h3:vZ w=w:=by
  apply ByteArray.ext
  apply Array.toList_inj.1
  show(w.data.toList.map zq).toArray.toList=_;rw[List.toList_toArray];exact(List.map_congr_left h2).trans (List.map_id _)
 exact⟨by rw[h3]at h;exact h,h3⟩
theorem adE{t:Tok}(e:t.kind=15)(X:List UInt8):Good (SV t) X:=by
 unfold SV;split
 .trivial
 .rcases jo e with c|⟨_,c⟩|⟨_,c⟩|⟨_,c⟩
  .contradiction
  all_goals
   rw[c];exact⟨show _∈lT by decide,pF _ (by decide),trivial⟩
theorem adF{c:UInt8}(h:SY (c.toNat:Int)=true/\(c.toNat:Int)≠32)(X:List UInt8):LZ (flat [.sign c]++X):=by rw[nU];exact h
theorem agG{t:Tok}(e:t.kind=15)(hc:closing t≠aA)(X:List UInt8):LZ (flat (SV t)++X):=by
 unfold SV;rw[if_neg hc];rcases jo e with c|⟨_,c⟩|⟨_,c⟩|⟨_,c⟩
 .contradiction
 all_goals
  rw[c];exact adF (by decide) X
mutual
theorem alC(p:aF):∀(n:Nd) (X:List UInt8),vN p n->(n.t.kind=1->aO (jy X)=false)->(oH n.t=false->closing n.t=aA->SY (jy X)=true)->Good (pcN n) X
 |.mk t k,X,h,hb,hf=>by
  simp only[vN]at h;simp only[Nd.Qq]at hb hf;rw[Bc];simp only[Nd.Qq,Nd.BK];have hv:=h.1;have hns:t.kind≠1->t.kind≠15->oH t=false:=fun h1 h2=>by unfold oH;simp[h1,h2]
  have agH:t.kind≠11->t.kind≠15->closing t=aA:=fun h1 h2=>wu h2 h1;rcases hv.kinds with e|e|e|e|e|e|e|e|e
  .rw[Y5 _ e];exact⟨trivial,hb e,trivial⟩
  .rw[Tc _ e];exact⟨trivial,trivial,trivial⟩
  .rw[adA _ e];exact⟨hv.ok.named (.inl e),rU (by simp) (by simp) (by simp) (hf (hns AE AE) (agH AE AE)),trivial⟩
  .rw[adB _ e];exact⟨hv.num (.inl e),rU (by simp) (by simp) (by simp) (hf (hns AE AE) (agH AE AE)),trivial⟩
  .rw[adC _ e];exact⟨hv.num (.inr (.inl e)),trivial,trivial⟩
  .rw[adD _ e];exact⟨⟨hv.num (.inr (.inr e)),hv.ok.dim e⟩,rU (by simp) (by simp) (by simp) (hf (hns AE AE) (agH AE AE)),trivial⟩
  .rw[Xh _ e];have hg:=Td p none k (flat [.sign 41]++X) h.2 ⟨rfl,show(41:Int)≠32 by decide⟩;refine⟨hv.ok.named (.inr (.inr (.inl e))),?_,hg.append ⟨show(41:UInt8)∈lT by decide,pF _ (by decide),trivial⟩⟩;intro hu;obtain⟨n,r',hn,hk⟩:=hv.url e (ajB hu).1;rcases hk with hk|⟨b,hb,hk⟩
   .rw[hk]at h⊢;simp only[vL]at h;have hvn:=((EJ p n).1 h.2.1).1;have h2:n.t.kind=2:=by
     rcases hvn.kinds with e|e|e|e|e|e|e|e|e<;>omega
    rw[rQ,if_neg (by simp[Ak]),Bc,Tc _ h2];exact⟨_,.inl rfl⟩
   .rw[hk]at h⊢;simp only[vL]at h;have hvn:=((EJ p n).1 h.2.2.1).1;have h2:n.t.kind=2:=by
     rcases hvn.kinds with e|e|e|e|e|e|e|e|e<;>omega
    have hg:SX (some b.t) n.t=[]:=by show(if parts b.t n.t=true then [Pc.com] else [])=[];rw[if_neg (by unfold parts oH;simp[hb])]
    rw[rQ,if_neg (by simp[Ak]),Bc,Y5 _ hb,rQ,if_neg (by simp[Ak,h2]),hg,Bc,Tc _ h2];exact⟨_,.inr rfl⟩
  .rw[Xi _ e];exact⟨hv.ok.named (.inr (.inr (.inr e))),rU (by simp) (by simp) (by simp) (hf (hns AE AE) (agH AE AE)),trivial⟩
  .rw[EK _ e];have hs:=OX hv e;by_cases hc:closing t=aA
   .rw[hv.leaf hc,zl];have hcl:SV t=[]:=by unfold SV;rw[if_pos hc]
    rw[hcl];refine⟨hs.1,?_,trivial⟩;by_cases hso:oH t=true
    .refine pF _ ?_;unfold oH Yt at hso;simp only[Bool.or_eq_true,Bool.and_eq_true,decide_eq_true_eq]at hso;rcases hso with h|⟨_,((((h|h)|h)|h)|h)|h⟩
     .omega
     all_goals(rw[h];decide)
    .exact rU (by simp) (by simp) (by simp) (hf (by simpa using hso) hc)
   .have hg:=Td p none k (flat (SV t)++X) h.2 (agG e hc X);refine⟨hs.1,pF _ ?_,hg.append (adE e X)⟩;rcases hs.2 hc with h|h|h<;>rw[h]<;>decide
theorem Td(p:aF):∀(a:Option Tok) (l:List Nd) (r:List UInt8),vL p l->LZ r->Good (zZ a l) r
 |_,[],_,_,_=>by rw[zl];trivial
 |a,n::l,r,h,hr=>by
  simp only[vL]at h;have hh:=aiq hr l n.t h.2;have hN:=alC p n (flat (zZ (some n.t) l)++r) h.1 hh.1 hh.2;have hL:=Td p (some n.t) l r h.2 hr;rw[rQ];refine Good.append ?_ hL;split
  .trivial
  .rename_i htw;refine Good.append ?_ hN;cases a with
   |none=>trivial
   |some a=>
    show Good (if parts a n.t=true then [Pc.com] else []) _;split
    .rename_i hp;refine⟨trivial,?_,trivial⟩;rintro ⟨q1,q2⟩;have hk:n.t.kind≠1:=fun e=>by
      unfold parts oH at hp;simp[e]at hp
     have hp1:=(Xj h.1 hk (flat (zZ (some n.t) l)++r)).2 q1;rw[hp1.2.2]at q2;have q3:jy (flat (zZ (some n.t) l)++r)=42:=q2;have hso:oH n.t=false:=by unfold parts at hp;simp only[Bool.and_eq_true,Bool.not_eq_true']at hp;exact hp.1.1.1.2
     have hcl:closing n.t=aA:=by
      have hs:=OX ((EJ p n).1 h.1).1 hp1.1;by_cases hc:closing n.t=aA
      .exact hc
      .have:=hs.2 hc;rw[hp1.2.1]at this;exact absurd this (by decide)
     have:=(zn (hh.2 hso hcl)).2.2.2.2.2.2.2.2.2.2;exact this q3
    .trivial
end
end
section
mutual
def okN:Nd->Prop
 |.mk t k=>dI t/\gu k
def gu:List Nd->Prop
 |[]=>True
 |n::r=>okN n/\gu r
end
theorem jl(n:Nd):okN n↔dI n.t/\gu n.kids:=by cases n;simp[okN]
theorem rC:∀(l:List Nd),gu l↔∀n∈l,okN n
 |[]=>by simp[gu]
 |m::r=>by simp[gu,rC r]
structure amq(k:Nat)(v:BY)(p:Nat):Prop where
 kind:k=116\/k=35\/k=46\/k=91\/k=58
 val:v.size<=4000000
 place:p<=1001
mutual
def okS:Simple->Prop
 |.mk k _ _ v l p=>amq k v p/\okL l
def okA:List Simple->Prop
 |[]=>True
 |s::r=>okS s/\okA r
def okT:Nat×List Simple->Prop
 |(b,all)=>b<256/\okA all
def okC:List (Nat×List Simple)->Prop
 |[]=>True
 |s::r=>okT s/\okC r
def okL:List (List (Nat×List Simple))->Prop
 |[]=>True
 |c::r=>(c≠[]/\okC c)/\okL r
end
theorem uj{l:List Nd}(h:gu l):gu (aH l):=by
 induction l with
 |nil=>simp[aH,gu]
 |cons n r ih=>
  unfold aH;split
  .exact ih h.2
  .exact h
theorem sQ{l:List Nd}(h:gu l):gu (bare l):=by rw[rC];intro n hn;unfold bare lJ at hn;rw[List.mem_reverse]at hn;have h1:gu (aH (aH l).reverse):=uj (by rw[rC];intro m hm;exact(rC _).1 (uj h) m (List.mem_reverse.1 hm));exact(rC _).1 h1 n hn
theorem CJ:∀(l:List Nd) (out:List (List Nd)) (cur:List Nd),(∀p∈out,gu p)->gu cur->gu l->∀p∈iZ out cur l,gu p
 |[],out,cur,h1,h2,_,p,hp=>by
  unfold iZ at hp;rcases List.mem_append.1 hp with h|h
  .exact h1 p h
  .simp at h;subst h;exact h2
 |m::r,out,cur,h1,h2,h3,p,hp=>by
  unfold iZ at hp;split at hp
  .refine CJ r (out++[cur]) [] (fun q hq=>?_) (by simp[gu]) h3.2 p hp;rcases List.mem_append.1 hq with h|h
   .exact h1 q h
   .simp at h;subst h;exact h2
  .refine CJ r out (cur++[m]) h1 ?_ h3.2 p hp;rw[rC];intro k hk;rcases List.mem_append.1 hk with h|h
   .exact(rC _).1 h2 k h
   .simp at h;subst h;exact h3.1
theorem Yz:∀(l:List UInt8) (v n:Nat),oN v l=some n->n<=999
 |[],v,n,h=>by
  unfold oN at h;split at h
  .cases h;assumption
  .cases h
 |c::r,v,n,h=>by
  unfold oN at h;split at h
  .exact Yz r _ n h
  .cases h
theorem Ik{t:Tok}{p:Nat}(h:placeOf t=some p):p<=1001:=by
 unfold placeOf at h;split at h
 .split at h
  .cases h;omega
  split at h
  .cases h;omega
  .cases h
 .split at h
  .cases hn:oN 0 t.word.data.toList with
   |none=>rw[hn]at h;cases h
   |some n=>rw[hn]at h;simp at h;have:=Yz _ _ _ hn;omega
  .cases h
theorem QK{l r:List Nd}{c:Nat}(hn:gu l)(h:gU l=some (c,r)):c<256/\gu r:=by
 unfold gU at h;have hd:=uj hn;split at h
 .split at h
  .cases h
  .cases h;exact⟨by omega,by simp[gu]⟩
 .rename_i n r' hdr;rw[hdr]at hd;split at h
  .cases h;exact⟨by omega,uj hd.2⟩
  split at h
  .cases h;exact⟨by omega,uj hd.2⟩
  split at h
  .cases h;exact⟨by omega,uj hd.2⟩
  split at h
  .cases h;exact⟨by omega,hd⟩
  .cases h
section
variable {rec:List Nd->Option bY} (hrec : ∀ l ss,gu l->rec l=some ss->okL ss)
include hrec
end
end
section
def wL(h:BY):Prop:=h=aA\/h=b1 61\/h=⟨#[126,61]⟩\/h=⟨#[94,61]⟩\/h=⟨#[36,61]⟩\/h=⟨#[42,61]⟩
def Il(nm:BY):Prop:=nm=BL\/nm=uY\/nm=BM\/nm=Eh\/nm=nD\/nm=DY\/nm=nG
def Io(b:Nat):Prop:=b=32\/b=62\/b=43\/b=126
structure PrN(k:Nat)(nm how v:BY)(p:Nat):Prop where
 kind:k=116\/(k=35/\nm≠aA)\/k=46\/(k=91/\wL how)\/(k=58/\Il nm)
 val:v.size<=4000000
 place:p<=1001
 nmz:nm.size<=4000000
 hwz:how.size<=10
theorem jE(s:BY):(small s).size=s.size:=by show(s.data.toList.map jr).toArray.size=s.data.size;rw[List.size_toArray,List.length_map,Array.length_toList]
mutual
def qkS:Simple->Prop
 |.mk k nm how v l p=>PrN k nm how v p/\CO l
def CP:List Simple->Prop
 |[]=>True
 |s::r=>qkS s/\CP r
def qkC:List (Nat×List Simple)->Prop
 |[]=>False
 |(b,all)::r=>b=0/\CP all/\qkR r
def qkR:List (Nat×List Simple)->Prop
 |[]=>True
 |(b,all)::r=>Io b/\CP all/\qkR r
def CO:List (List (Nat×List Simple))->Prop
 |[]=>True
 |c::r=>qkC c/\CO r
end
theorem Ip:∀(a b:List Simple),CP (a++b)↔CP a/\CP b
 |[],b=>by simp[CP]
 |s::r,b=>by simp[CP,Ip r b,and_assoc]
theorem lC{k:Nat}{nm h v:BY}{p:Nat}(hs:PrN k nm h v p):qkS (.mk k nm h v [] p):=by simp[qkS,CO,hs]
theorem ML{l:List Nd}{s:Simple}(hl:gu l)(h:gG l=some s):qkS s:=by
 unfold gG at h;split at h
 .cases h
 .rename_i n r;simp only at h;split at h
  .cases h
  .split at h
   .cases h;exact lC ⟨by simp[wL],Nat.zero_le _,by omega,((jl n).1 hl.1).1.word,Nat.zero_le _⟩
   .rename_i m r1 hb;split at h
    .cases h
    .have hr1:gu (m::r1):=by rw[<-hb];exact sQ hl.2
     split at h
     .cases h
     .rename_i q r2 hq;have hq2:gu (q::r2):=by
       rw[<-hq];split
       .exact hr1.2
       .exact hr1
      split at h
      .rename_i v hv;have hv2:gu [v]:=by rw[<-hv];exact sQ hq2.2
       split at h
       .cases h;refine lC ⟨.inr (.inr (.inr (.inl ⟨rfl,?_⟩))),((jl v).1 hv2.1).1.word,by omega,((jl n).1 hl.1).1.word,?_⟩
        .split
         .rename_i hm;rcases hm with e|e|e|e<;>rw[e]<;>unfold wL<;>decide
         .unfold wL;decide
        .split
         .rename_i hm;rcases hm with e|e|e|e<;>rw[e]<;>decide
         .decide
       .cases h
      .cases h
theorem QL{l r:List Nd}{c:Nat}(h:gU l=some (c,r)):Io c:=by
 unfold gU at h;split at h
 .split at h
  .cases h
  .cases h;simp[Io]
 .split at h
  .cases h;simp[Io]
  split at h
  .cases h;simp[Io]
  split at h
  .cases h;simp[Io]
  split at h
  .cases h;simp[Io]
  .cases h
theorem hash_ne{n:Nd}(h:okN n)(hk:n.t.kind=4):n.t.word≠aA:=by have:=((jl n).1 h).1.named (.inl hk);intro e;rw[e]at this;exact absurd this (by decide)
section
variable {rec:List Nd->Option bY} (hrec : ∀ l ss,gu l->rec l=some ss->CO ss)
include hrec
theorem VF{n:Nd}{s:Simple}(hn:okN n)(h:bM rec n=some s):qkS s:=by
 unfold bM at h;simp only at h;split at h
 .split at h
  .rename_i hw;cases h;exact lC ⟨.inr (.inr (.inr (.inr ⟨rfl,by rcases hw with e|e|e|e<;>simp[Il,e]⟩))),Nat.zero_le _,by omega,by rw[jE];exact((jl n).1 hn).1.word,Nat.zero_le _⟩
  .cases h
 split at h
 .cases h
 split at h
 .rename_i hw;cases hr:rec n.kids with
  |none=>rw[hr]at h;cases h
  |some ss=>rw[hr]at h;simp at h;subst h;have:=hrec _ _ ((jl n).1 hn).2 hr;simp only[qkS];exact⟨⟨.inr (.inr (.inr (.inr ⟨rfl,by rcases hw with e|e<;>simp[Il,e]⟩))),Nat.zero_le _,by omega,by rw[jE];exact((jl n).1 hn).1.word,Nat.zero_le _⟩,this⟩
 split at h
 .rename_i hw;split at h
  .rename_i v hv;cases hp:placeOf v.t with
   |none=>rw[hp]at h;cases h
   |some q=>rw[hp]at h;simp at h;subst h;exact lC ⟨.inr (.inr (.inr (.inr ⟨rfl,by simp[Il,hw]⟩))),Nat.zero_le _,Ik hp,by rw[jE];exact((jl n).1 hn).1.word,Nat.zero_le _⟩
  .cases h
 .cases h
theorem aae(n:Nat):∀(acc:List Simple) (l:List Nd) (all:List Simple) (r:List Nd),l.length<=n->CP acc->gu l->bZ rec acc l=some (all,r)->CP all/\gu r:=by
 induction n with
 |zero=>intro acc l all r hl ha hn h;obtain rfl:l=[]:=List.eq_nil_of_length_eq_zero AE;simp[bZ]at h;obtain⟨rfl,rfl⟩:=h;exact⟨ha,hn⟩
 |succ n ih=>
  intro acc l all r hl ha hn h;have one:∀s,qkS s->CP (acc++[s]):=fun s hs=>by rw[Ip];exact⟨ha,by simp[CP,hs]⟩
  match l,hl,hn,h with
  |[],_,hn,h=>simp[bZ]at h;obtain⟨rfl,rfl⟩:=h;exact⟨ha,hn⟩
  |[m],_,hn,h=>
   have hw:=((jl m).1 hn.1);unfold bZ at h;split at h
   .rename_i hk;cases h;exact⟨one _ (lC ⟨.inr (.inl ⟨rfl,hash_ne hn.1 hk⟩),Nat.zero_le _,by omega,hw.1.word,Nat.zero_le _⟩),by simp[gu]⟩
   split at h
   .cases h
   split at h
   .split at h
    .cases h
    .rename_i s hs;cases h;exact⟨one _ (ML (sQ hw.2) hs),by simp[gu]⟩
   split at h
   .cases h
   .cases h;exact⟨ha,hn⟩
  |m::q::r',hl,hn,h=>
   simp only[List.length_cons]at hl;have hw:=((jl m).1 hn.1);unfold bZ at h;split at h
   .rename_i hk;exact ih _ _ _ _ (by simp;omega) (one _ (lC ⟨.inr (.inl ⟨rfl,hash_ne hn.1 hk⟩),Nat.zero_le _,by omega,hw.1.word,Nat.zero_le _⟩)) hn.2 h
   split at h
   .split at h
    .exact ih _ _ _ _ AE (one _ (lC ⟨by simp,Nat.zero_le _,by omega,((jl q).1 hn.2.1).1.word,Nat.zero_le _⟩)) hn.2.2 h
    .cases h
   split at h
   .split at h
    .cases h
    .rename_i s hs;exact ih _ _ _ _ (by simp;omega) (one _ (ML (sQ hw.2) hs)) hn.2 h
   split at h
   .split at h
    .cases h
    .rename_i s hs;exact ih _ _ _ _ AE (one _ (VF hrec hn.2.1 hs)) hn.2.2 h
   .cases h;exact⟨ha,hn⟩
theorem CQ{l:List Nd}{all:List Simple}{r:List Nd}(hn:gu l)(h:aZ rec l=some (all,r)):CP all/\gu r:=by
 unfold aZ at h;have ht:CP (kP l).1/\gu (kP l).2:=by
  unfold kP;split
  .exact⟨by simp[CP],by simp[gu]⟩
  .split
   .exact⟨by simp only[CP,and_true];exact lC ⟨by simp,Nat.zero_le _,by omega,by rw[jE];exact((jl _).1 hn.1).1.word,Nat.zero_le _⟩,hn.2⟩
   split
   .exact⟨by simp only[CP,and_true];exact lC ⟨by simp,Nat.zero_le _,by omega,Nat.zero_le _,Nat.zero_le _⟩,hn.2⟩
   .exact⟨by simp[CP],hn⟩
 exact aae hrec _ _ _ _ _ (Nat.le_refl _) ht.1 ht.2 h
theorem Fz:∀(f b:Nat) (l:List Nd) (ss:List Step),gu l->bD rec f b l=some ss->∃all r,ss=(b,all)::r/\CP all/\qkR r
 |0,_,_,_,_,h=>by simp[bD]at h
 |f+1,b,l,ss,hn,h=>by
  unfold bD at h;split at h
  .cases h
  .rename_i all r hc;have h1:=CQ hrec hn hc;split at h
   .cases h
   split at h
   .cases h;exact⟨_,_,rfl,h1.1,by simp[qkR]⟩
   .split at h
    .cases h
    .rename_i c r' hcb;have h2:=QK h1.2 hcb;have hc2:=QL hcb;cases hx:bD rec f c r' with
     |none=>rw[hx]at h;cases h
     |some x=>rw[hx]at h;simp at h;subst h;obtain⟨all2,r2,rfl,h4,h5⟩:=Fz f c r' x h2.2 hx;exact⟨_,_,rfl,h1.1,by simp only[qkR];exact⟨hc2,h4,h5⟩⟩
theorem QM:∀(ps:List (List Nd)) (ss:bY),(∀p∈ps,gu p)->fZ rec ps=some ss->CO ss
 |[],ss,_,h=>by simp[fZ]at h;subst h;simp[CO]
 |p::r,ss,hp,h=>by
  unfold fZ at h;split at h
  .cases h
  .rename_i s hs;cases hx:fZ rec r with
   |none=>rw[hx]at h;cases h
   |some x=>rw[hx]at h;simp at h;subst h;obtain⟨all,r3,rfl,h4,h5⟩:=Fz hrec _ _ _ _ (sQ (hp p (by simp))) hs;simp only[CO,qkC];exact⟨⟨trivial,h4,h5⟩,QM r x (fun q hq=>hp q (by simp[hq])) hx⟩
theorem QN{l:List Nd}{ss:bY}(hn:gu l)(h:oz rec l=some ss):CO ss:=by
 unfold oz at h;split at h
 .cases h
 .exact QM hrec _ _ (CJ l [] [] (by simp) (by simp[gu]) hn) h
end
theorem Gw:∀(f:Nat) (l:List Nd) (ss:bY),gu l->lM f l=some ss->CO ss
 |0,l,ss,hn,h=>QN (rec:=fun _=>none) (fun _ _ _ h=>by cases h) hn h
 |f+1,l,ss,hn,h=>QN (rec:=lM f) (fun l ss h1 h2=>Gw f l ss h1 h2) hn h
theorem VG:∀(ss:bY) (i:Nat) (_:CO ss) (h:i<ss.length),qkC ss[i]
 |c::r,0,h,_=>by simp only[CO]at h;simpa using h.1
 |c::r,i+1,h,hi=>by simp only[CO]at h;simpa using VG r i h.2 (by simpa using hi)
theorem acw:∀(ss:List Step) (i:Nat) (_:qkR ss) (h:i<ss.length),Io ss[i].1/\CP ss[i].2
 |(b,all)::r,0,h,_=>by simp only[qkR]at h;simpa using⟨h.1,h.2.1⟩
 |(b,all)::r,i+1,h,hi=>by simp only[qkR]at h;simpa using acw r i h.2.2 (by simpa using hi)
theorem acy:∀(ss:List Simple) (i:Nat) (_:CP ss) (h:i<ss.length),qkS ss[i]
 |c::r,0,h,_=>by simp only[CP]at h;simpa using h.1
 |c::r,i+1,h,hi=>by simp only[CP]at h;simpa using acy r i h.2 (by simpa using hi)
end
section
def Xk:Simple->Nat
 |.mk k _ _ _ _ _=>k
def adG(k:Nat)(nm how:BY):Prop:=k=116\/((k=35\/k=46)/\0<nm.size)\/(k=91/\0<nm.size/\wL how)\/(k=58/\Il nm)
def rV(l:List Simple):Prop:=∀s∈l,Xk s≠116
mutual
def Tf:Simple->Prop
 |.mk k nm how _ l p=>adG k nm how/\p<=1001/\F9 l
def KQ:List Simple->Prop
 |[]=>True
 |s::r=>Tf s/\KQ r
def sfC:List (Nat×List Simple)->Prop
 |[]=>False
 |(b,all)::r=>b=0/\all≠[]/\rV all.tail/\KQ all/\sfR r
def sfR:List (Nat×List Simple)->Prop
 |[]=>True
 |(b,all)::r=>Io b/\all≠[]/\rV all.tail/\KQ all/\sfR r
def F9:List (List (Nat×List Simple))->Prop
 |[]=>True
 |c::r=>sfC c/\F9 r
end
theorem lH{k:Nat}{nm h v:BY}{p:Nat}(hs:adG k nm h)(hp:p<=1001):Tf (.mk k nm h v [] p):=by simp[Tf,F9,hs,hp]
theorem Ny{n:Nd}(h:okN n)(hk:n.t.kind=14):0<n.t.word.size:=((jl n).1 h).1.named (.inr (.inr (.inr hk)))
theorem Ti{n:Nd}(h:okN n)(hk:n.t.kind=4):0<n.t.word.size:=((jl n).1 h).1.named (.inl hk)
theorem Nz{l:List Nd}{s:Simple}(hl:gu l)(h:gG l=some s):Tf s/\Xk s≠116:=by
 unfold gG at h;split at h
 .cases h
 .rename_i n r;simp only at h;split at h
  .cases h
  .rename_i hk;have hp:=Ny hl.1 (by simpa using hk);split at h
   .cases h;exact⟨lH (.inr (.inr (.inl ⟨rfl,hp,by simp[wL]⟩))) AE,by simp[Xk,Simple.of]⟩
   .rename_i m r1 hb;split at h
    .cases h
    .split at h
     .cases h
     .rename_i q r2 hq;split at h
      .rename_i v hv;split at h
       .cases h;refine⟨lH (.inr (.inr (.inl ⟨rfl,hp,?_⟩))) AE,by simp[Xk]⟩;split
        .rename_i hm;rcases hm with e|e|e|e<;>rw[e]<;>unfold wL<;>decide
        .unfold wL;decide
       .cases h
      .cases h
section
variable {rec:List Nd->Option bY} (hrec : ∀ l ss,gu l->rec l=some ss->F9 ss)
include hrec
theorem Xl{n:Nd}{s:Simple}(hn:okN n)(h:bM rec n=some s):Tf s/\Xk s≠116:=by
 unfold bM at h;simp only at h;split at h
 .split at h
  .rename_i hw;cases h;exact⟨lH (.inr (.inr (.inr ⟨rfl,by rcases hw with e|e|e|e<;>simp[Il,e]⟩))) AE,by simp[Xk,Simple.of]⟩
  .cases h
 split at h
 .cases h
 split at h
 .rename_i hw;cases hr:rec n.kids with
  |none=>rw[hr]at h;cases h
  |some ss=>rw[hr]at h;simp at h;subst h;have:=hrec _ _ ((jl n).1 hn).2 hr;simp only[Tf];exact⟨⟨.inr (.inr (.inr ⟨rfl,by rcases hw with e|e<;>simp[Il,e]⟩)),by omega,this⟩,by simp[Xk]⟩
 split at h
 .rename_i hw;split at h
  .rename_i v hv;cases hp:placeOf v.t with
   |none=>rw[hp]at h;cases h
   |some q=>rw[hp]at h;simp at h;subst h;exact⟨lH (.inr (.inr (.inr ⟨rfl,by simp[Il,hw]⟩))) (Ik hp),by simp[Xk]⟩
  .cases h
 .cases h
theorem aaX(n:Nat):∀(acc:List Simple) (l:List Nd) (all:List Simple) (r:List Nd),l.length<=n->gu l->bZ rec acc l=some (all,r)->∃more,all=acc++more/\KQ more/\rV more:=by
 induction n with
 |zero=>intro acc l all r hl hn h;obtain rfl:l=[]:=List.eq_nil_of_length_eq_zero AE;simp[bZ]at h;obtain⟨rfl,rfl⟩:=h;exact⟨[],by simp,by simp[KQ],by simp[rV]⟩
 |succ n ih=>
  intro acc l all r hl hn h;have none':∃more,acc=acc++more/\KQ more/\rV more:=⟨[],by simp,by simp[KQ],by simp[rV]⟩;have one:∀s,(Tf s/\Xk s≠116)->∃more,acc++[s]=acc++more/\KQ more/\rV more:=fun s hs=>⟨[s],rfl,by simp[KQ,hs.1],by simp[rV,hs.2]⟩;have more:∀s all,(Tf s/\Xk s≠116)->(∃more,all=acc++[s]++more/\KQ more/\rV more)->∃more,all=acc++more/\KQ more/\rV more:=by
   rintro s all hs ⟨m,rfl,h1,h2⟩;refine⟨s::m,by simp,⟨hs.1,h1⟩,fun x hx=>?_⟩;rcases List.mem_cons.1 hx with rfl|hx
   .exact hs.2
   .exact h2 x hx
  match l,hl,hn,h with
  |[],_,hn,h=>simp[bZ]at h;obtain⟨rfl,rfl⟩:=h;exact none'
  |[m],_,hn,h=>
   have hw:=((jl m).1 hn.1);unfold bZ at h;split at h
   .rename_i hk;cases h;exact one _ ⟨lH (.inr (.inl ⟨.inl rfl,Ti hn.1 hk⟩)) AE,by simp[Xk,Simple.of]⟩
   split at h
   .cases h
   split at h
   .split at h
    .cases h
    .rename_i s hs;cases h;exact one _ (Nz (sQ hw.2) hs)
   split at h
   .cases h
   .cases h;exact none'
  |m::q::r',hl,hn,h=>
   simp only[List.length_cons]at hl;have hw:=((jl m).1 hn.1);unfold bZ at h;split at h
   .rename_i hk;exact more _ _ ⟨lH (.inr (.inl ⟨.inl rfl,Ti hn.1 hk⟩)) AE,by simp[Xk]⟩ (ih _ _ _ _ (by simp;omega) hn.2 h)
   split at h
   .split at h
    .rename_i hk;exact more _ _ ⟨lH (.inr (.inl ⟨.inr rfl,Ny hn.2.1 hk⟩)) AE,by simp[Xk]⟩ (ih _ _ _ _ AE hn.2.2 h)
    .cases h
   split at h
   .split at h
    .cases h
    .rename_i s hs;exact more _ _ (Nz (sQ hw.2) hs) (ih _ _ _ _ (by simp;omega) hn.2 h)
   split at h
   .split at h
    .cases h
    .rename_i s hs;exact more _ _ (Xl hrec hn.2.1 hs) (ih _ _ _ _ AE hn.2.2 h)
   .cases h;exact none'
theorem OY{l:List Nd}{all:List Simple}{r:List Nd}(hn:gu l)(h:aZ rec l=some (all,r)):KQ all/\rV all.tail:=by
 unfold aZ at h;have ht:gu (kP l).2/\((kP l).1=[]\/∃s,(kP l).1=[s]/\Tf s):=by
  unfold kP;split
  .exact⟨by simp[gu],.inl rfl⟩
  .split
   .exact⟨hn.2,.inr ⟨_,rfl,lH (.inl rfl) AE⟩⟩
   split
   .exact⟨hn.2,.inr ⟨_,rfl,lH (.inl rfl) AE⟩⟩
   .exact⟨hn,.inl rfl⟩
 obtain⟨more,e,h1,h2⟩:=aaX hrec _ _ _ _ _ (Nat.le_refl _) ht.1 h;subst e;rcases ht.2 with e|⟨s,e,hs⟩
 .rw[e,List.nil_append];exact⟨h1,fun x hx=>h2 x (List.mem_of_mem_tail hx)⟩
 .rw[e];exact⟨⟨hs,h1⟩,h2⟩
variable (hq : ∀ l ss,gu l->rec l=some ss->CO ss)
include hq
theorem FP:∀(f b:Nat) (l:List Nd) (ss:List Step),gu l->bD rec f b l=some ss->∃all r,ss=(b,all)::r/\all≠[]/\rV all.tail/\KQ all/\sfR r
 |0,_,_,_,_,h=>by simp[bD]at h
 |f+1,b,l,ss,hn,h=>by
  unfold bD at h;split at h
  .cases h
  .rename_i all r hc;have h1:=OY hrec hn hc;split at h
   .cases h
   .rename_i hne;split at h
    .cases h;exact⟨_,_,rfl,hne,h1.2,h1.1,by simp[sfR]⟩
    .split at h
     .cases h
     .rename_i c r' hcb;have hok:gu r:=(CQ hq hn hc).2;have h2:=QK hok hcb;have hc2:=QL hcb;cases hx:bD rec f c r' with
      |none=>rw[hx]at h;cases h
      |some x=>rw[hx]at h;simp at h;subst h;obtain⟨all2,r2,rfl,h3,h3',h4,h5⟩:=FP f c r' x h2.2 hx;exact⟨_,_,rfl,hne,h1.2,h1.1,by simp only[sfR];exact⟨hc2,h3,h3',h4,h5⟩⟩
theorem Tj:∀(ps:List (List Nd)) (ss:bY),(∀p∈ps,gu p)->fZ rec ps=some ss->F9 ss
 |[],ss,_,h=>by simp[fZ]at h;subst h;simp[F9]
 |p::r,ss,hp,h=>by
  unfold fZ at h;split at h
  .cases h
  .rename_i s hs;cases hx:fZ rec r with
   |none=>rw[hx]at h;cases h
   |some x=>rw[hx]at h;simp at h;subst h;obtain⟨all,r3,rfl,h3,h3',h4,h5⟩:=FP hrec hq _ _ _ _ (sQ (hp p (by simp))) hs;simp only[F9,sfC];exact⟨⟨trivial,h3,h3',h4,h5⟩,Tj r x (fun q hq=>hp q (by simp[hq])) hx⟩
theorem Tm{l:List Nd}{ss:bY}(hn:gu l)(h:oz rec l=some ss):F9 ss:=by
 unfold oz at h;split at h
 .cases h
 .exact Tj hrec hq _ _ (CJ l [] [] (by simp) (by simp[gu]) hn) h
end
theorem Y6:∀(f:Nat) (l:List Nd) (ss:bY),gu l->lM f l=some ss->F9 ss
 |0,l,ss,hn,h=>Tm (rec:=fun _=>none) (fun _ _ _ h=>by cases h) (fun _ _ _ h=>by cases h) hn h
 |f+1,l,ss,hn,h=>Tm (rec:=lM f) (fun l ss h1 h2=>Y6 f l ss h1 h2) (fun l ss h1 h2=>Gw f l ss h1 h2) hn h
end
