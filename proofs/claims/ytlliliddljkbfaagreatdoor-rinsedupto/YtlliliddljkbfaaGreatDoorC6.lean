import Derived.Test.YtlliliddljkbfaaGreatDoorC2
import Derived.Test.YtlliliddljkbfaaGreatDoorC3
import Derived.Test.YtlliliddljkbfaaGreatDoorC4
namespace Go.Proofs.YtlliliddljkbfaaGreatDoor.Sp
set_option maxHeartbeats 64000000
set_option maxRecDepth 100000
def cat:List ByteArray->ByteArray
 |[]=>aA
 |a::r=>a++cat r
structure Rule where
 at_:Option ByteArray
 head:List Nd
 body:Option (List Nd)
def bM(stop:Nd->Bool):List Nd->List Nd×Option Nd×List Nd
 |[]=>([],none,[])
 |n::r=>if stop n=true then([],some n,r) else let x:=bM stop r;(n::x.1,x.2)
def aW(n:Nd):Bool:=dY n (b1 59)
def aQ(n:Nd):Bool:=dY n (b1 123)
def dw:Option Nd->Option (List Nd)
 |none=>none
 |some b=>if aQ b=true then some b.kids else none
def qF(lN:Bool)(n:Nd):Bool:=nI n||(lN&&(decide (n.t.kind=8)||decide (n.t.kind=9)))
def lU:Nat->Bool->List Nd->List Rule
 |0,_,_=>[]
 |_+1,_,[]=>[]
 |f+1,sh,n::r=>
  if qF sh n=true then lU f sh r
  else if n.t.kind=10 then
   let c:=bM (fun m=>aW m||aQ m) r
   ⟨some n.t.word,c.1,dw c.2.1⟩::lU f sh c.2.2
  else
   let c:=bM aQ (n::r)
   match c.2.1 with
   |none=>[]
   |some b=>⟨none,c.1,some b.kids⟩::lU f sh c.2.2
def rules(sh:Bool)(l:List Nd):List Rule:=lU l.length sh l
structure Dec where
 prop:ByteArray
 val:List Nd
 imp:Bool
def custom(p:ByteArray):Bool:=decide (pk p 0=45)&&decide (pk p 1=45)
def je(w:ByteArray):ByteArray:=if custom w=true then w else small w
def gq:ByteArray:=⟨#[105,109,112,111,114,116,97,110,116]⟩
def l9(n:Nd)(w:ByteArray):Bool:=decide (n.t.kind=14)&&decide (small n.t.word=w)
def iy(v:List Nd):List Nd×Bool:=
 match v.getLast? with
 |none=>(v,false)
 |some x=>
  if l9 x gq=true then
   (match (bare v.dropLast).getLast? with
    |none=>(v,false)
    |some y=>if dY y (b1 33)=true then(bare (bare v.dropLast).dropLast,true) else(v,false))
  else(v,false)
def dS(l:List Nd):Option Dec:=
 match l with
 |[]=>none
 |n::r=>
  if n.t.kind≠14 then none
  else match bare r with
   |[]=>none
   |c::q=>if dY c (b1 58)=true then some ⟨je n.t.word,(iy (bare q)).1,(iy (bare q)).2⟩ else none
def jB:Nat->List Nd->List Dec
 |0,_=>[]
 |_+1,[]=>[]
 |f+1,n::r=>
  if nI n||aW n then jB f r
  else if n.t.kind=10 then jB f (bM (fun m=>aW m||aQ m) r).2.2
  else
   let c:=bM aW (n::r)
   match dS c.1 with
   |none=>jB f c.2.2
   |some d=>d::jB f c.2.2
def decls(l:List Nd):List Dec:=jB l.length l
def hexD(n:Nat):UInt8:=if n<10 then UInt8.ofNat (48+n) else UInt8.ofNat (87+n)
def ji(c:UInt8):ByteArray:=⟨#[92,hexD (c.toNat/16),hexD (c.toNat%16),32]⟩
def ou(c:UInt8):Bool:=(decide (97<=c.toNat)&&decide (c.toNat<=122))||(decide (65<=c.toNat)&&decide (c.toNat<=90))
def oz(c:UInt8):Bool:=decide (48<=c.toNat)&&decide (c.toNat<=57)
def bn(w:ByteArray)(i:Nat)(c:UInt8):Bool:=
 if oz c=true then !(i==0||(i==1&&pk w 0==45))
 else if c=45 then !(w.size==1)
 else ou c||c==95
def qR(ok:Nat->UInt8->Bool):Nat->List UInt8->ByteArray
 |_,[]=>aA
 |i,c::r=>(if ok i c=true then b1 c else ji c)++qR ok (i+1) r
def bC(w:ByteArray):ByteArray:=qR (bn w) 0 w.data.toList
def oJ(w:ByteArray):ByteArray:=qR (fun i c=>bn w i c&&!(i==0&&(c==101||c==69))) 0 w.data.toList
def eF(c:UInt8):Bool:=decide (32<=c.toNat)&&decide (c.toNat<=126)&&!(c==34||c==92||c==60||c==62)
def aaV:ByteArray:=b1 34
def oK(w:ByteArray):ByteArray:=aaV++(qR (fun _ c=>eF c) 0 w.data.toList++aaV)
def dQ(c:UInt8):Bool:=ou c||oz c||c==46||c==47||c==58||c==45
def acE:ByteArray:=⟨#[117,114,108,40]⟩
def tZ(w:ByteArray):ByteArray:=acE++(qR (fun _ c=>dQ c) 0 w.data.toList++b1 41)
def Vs:ByteArray:=⟨#[60,33,45,45]⟩
def OJ:ByteArray:=⟨#[45,45,62]⟩
def Vt:ByteArray:=⟨#[34,10]⟩
def Vu:ByteArray:=⟨#[117,114,108,40,40,41]⟩
def mg:ByteArray:=⟨#[47,42,42,47]⟩
def Vw(w:ByteArray):Bool:=decide (w=b1 44)||decide (w=b1 58)||decide (w=b1 59)||decide (w=b1 41)||decide (w=b1 93)||decide (w=b1 125)
def uf(t:Tok):Bool:=decide (t.kind=1)||(decide (t.kind=15)&&Vw t.word)
def parts(a b:Tok):Bool:=!uf a&&!uf b&&decide (closing a=aA)&&!ay b (b1 91)&&!ay b (b1 123)
def OL(t:Tok)(inn:ByteArray):ByteArray:=
 if t.kind=1 then b1 32
 else if t.kind=2 then oK t.word
 else if t.kind=3 then Vt
 else if t.kind=4 then b1 35++bC t.word
 else if t.kind=6 then t.word++b1 37
 else if t.kind=7 then t.word++oJ t.unit
 else if t.kind=8 then Vs
 else if t.kind=9 then OJ
 else if t.kind=10 then b1 64++bC t.word
 else if t.kind=11 then bC t.word++(b1 40++(inn++b1 41))
 else if t.kind=12 then tZ t.word
 else if t.kind=13 then Vu
 else if t.kind=14 then bC t.word
 else if t.kind=15 then t.word++(inn++closing t)
 else t.word
def uy(a:Option Tok)(b:Tok):ByteArray:=match a with|none=>aA|some a=>if parts a b=true then mg else aA
def Ei(a:Option Tok)(b:Tok):Bool:=match a with|none=>false|some a=>decide (a.kind=1)&&decide (b.kind=1)
mutual
def iH:Nd->ByteArray
 |.mk t k=>OL t (lQ none k)
def lQ:Option Tok->List Nd->ByteArray
 |_,[]=>aA
 |a,n::r=>(if Ei a n.t=true then aA else uy a n.t++iH n)++lQ (some n.t) r
end
def written(l:List Nd):ByteArray:=lQ none l
structure Wt where
 a:Nat
 b:Nat
 c:Nat
def Wt.zero:Wt:=⟨0,0,0⟩
def Wt.add(x y:Wt):Wt:=⟨x.a+y.a,x.b+y.b,x.c+y.c⟩
def Wt.less(x y:Wt):Bool:=if x.a≠y.a then decide (x.a<y.a) else if x.b≠y.b then decide (x.b<y.b) else decide (x.c<y.c)
def Wt.most(x y:Wt):Wt:=if x.less y=true then y else x
mutual
def wtS:Simple->Wt
 |.mk kind name _ _ list _=>
  if kind=35 then⟨1,0,0⟩
  else if kind=116 then(if name=aA then Wt.zero else⟨0,0,1⟩)
  else if kind=58/\(name=lg\/name=xB) then wtL Wt.zero list
  else⟨0,1,0⟩
def wtA:List Simple->Wt
 |[]=>Wt.zero
 |s::r=>(wtS s).add (wtA r)
def wtT:Nat×List Simple->Wt
 |(_,all)=>wtA all
def wtC:List (Nat×List Simple)->Wt
 |[]=>Wt.zero
 |t::r=>(wtT t).add (wtC r)
def wtL:Wt->List (List (Nat×List Simple))->Wt
 |best,[]=>best
 |best,c::r=>wtL (best.most (wtC c)) r
end
abbrev Ld:=fC×List Dec
def YQ(r:Rule):Option Ld:=
 match r.at_,r.body with
 |none,some b=>(zx r.head).map (fun s=>(s,decls b))
 |_,_=>none
def Vx(l:List Nd):List Ld:=(rules true l).filterMap YQ
def fitsW(p:oP)(e:Nat):Option Wt->fC->Option Wt
 |w,[]=>w
 |w,c::r=>fitsW p e (if onC p c none e=true then(match w with|none=>some (wtC c)|some x=>some (x.most (wtC c))) else w) r
structure Win where
 imp:Bool
 wt:Wt
 val:List Nd
def acF(d:Dec)(w:Wt):Option Win->Bool
 |none=>true
 |some b=>if d.imp≠b.imp then d.imp else !(w.less b.wt)
def acG(q:ByteArray)(w:Wt):Option Win->List Dec->Option Win
 |best,[]=>best
 |best,d::r=>acG q w (if decide (d.prop=q)&&acF d w best then some ⟨d.imp,w,d.val⟩ else best) r
def acH(p:oP)(e:Nat)(q:ByteArray):Option Win->List Ld->Option Win
 |best,[]=>best
 |best,r::rs=>acH p e q (match fitsW p e none r.1 with|none=>best|some w=>acG q w best r.2) rs
def Vy(p:oP)(rs:List Ld)(e:Nat)(q:ByteArray):Option Win:=acH p e q none rs
def ad5:ByteArray:=⟨#[118,97,114]⟩
def Vz:ByteArray:=⟨#[105,110,104,101,114,105,116]⟩
def aaW:ByteArray:=⟨#[117,110,115,101,116]⟩
def nInitial:ByteArray:=⟨#[105,110,105,116,105,97,108]⟩
def aaX:ByteArray:=⟨#[99,111,108,111,114]⟩
def acI:ByteArray:=⟨#[102,111,110,116,45,115,105,122,101]⟩
def YR:ByteArray:=⟨#[113,117,111,116,101,115]⟩
def isWord(v:List Nd)(w:ByteArray):Bool:=match v with|[n]=>l9 n w|_=>false
mutual
def YS(g:Tok->Bool):Nd->Bool
 |.mk t k=>g t||zD g k
def zD(g:Tok->Bool):List Nd->Bool
 |[]=>false
 |n::r=>YS g n||zD g r
end
def ad6(t:Tok):Bool:=decide (t.kind=3)||decide (t.kind=13)
def aaY(t:Tok):Bool:=decide (t.kind=11)&&decide (small t.word=ad5)
def varOf(k:List Nd):Option (ByteArray×Option (List Nd)):=
 match aC k with
 |[]=>none
 |n::r=>
  if n.t.kind=14/\custom n.t.word=true then
   (match aC r with
    |[]=>some (n.t.word,none)
    |c::q=>if dY c (b1 44)=true then some (n.t.word,some (bare q)) else none)
  else none
mutual
def aaZ:Nd->List ByteArray
 |.mk t k=>(if aaY t=true then(match varOf k with|some (w,_)=>[w]|none=>[]) else [])++JA k
def JA:List Nd->List ByteArray
 |[]=>[]
 |n::r=>aaZ n++JA r
end
def handed(q:ByteArray):Bool:=custom q||decide (q=aaX)||decide (q=acI)||decide (q=YR)
def aaz:List ByteArray->List ByteArray->List ByteArray
 |met,[]=>met
 |met,n::r=>aaz (if met.contains n=true then met else met++[n]) r
def VA(nb:ByteArray->List ByteArray)(q:ByteArray):Nat->Nat->List ByteArray->Bool
 |0,_,_=>false
 |f+1,i,met=>match met[i]? with
  |none=>false
  |some n=>if n=q then true else VA nb q f (i+1) (aaz met (nb n))
def acJ(s:ByteArray):Nd:=.mk (Tok.w 99 s) []
def YT(h:Nd->Option Nd):List Nd->Option (List Nd)
 |[]=>some []
 |n::r=>match h n with|none=>none|some m=>(YT h r).map (fun x=>m::x)
def aa0(g:ByteArray->ByteArray):Nat->Nd->Option Nd
 |0,n=>some (.mk n.t [])
 |f+1,n=>
  if aaY n.t=true then
   (match varOf n.kids with
    |none=>none
    |some (w,fb)=>
     if g w≠aA then some (acJ (g w))
     else match fb with
      |none=>none
      |some b=>(YT (aa0 g f) b).map (fun x=>acJ (written x)))
  else(YT (aa0 g f) n.kids).map (fun k=>.mk n.t k)
def ad7(g:ByteArray->ByteArray)(l:List Nd):Option (List Nd):=YT (aa0 g (depth l)) l
section
variable (p:oP) (rs:List Ld)
def Ri(e:Nat)(q:ByteArray):List ByteArray:=match Vy p rs e q with|none=>[]|some w=>JA w.val
def allNames:List ByteArray:=rs.flatMap (fun r=>r.2.flatMap (fun d=>JA d.val))
def turns(e:Nat)(q:ByteArray):Bool:=VA (Ri p rs e) q (2*(allNames rs).length+1) 0 (Ri p rs e q)
def aa1(rec:Nat->ByteArray->ByteArray)(e:Nat)(q:ByteArray):ByteArray:=
 let par:=if parentOf p e<0 then aA else rec (parentOf p e).toNat q
 let down:=if handed q=true then par else aA
 match Vy p rs e q with
 |none=>down
 |some w=>
  if isWord w.val Vz=true then par
  else if isWord w.val nInitial=true then aA
  else if isWord w.val aaW||zD ad6 w.val then down
  else if zD aaY w.val=false then written w.val
  else if custom q&&turns p rs e q then aA
  else match ad7 (rec e) w.val with
   |none=>down
   |some l=>if (written l).size<=400 then written l else down
def VD:Nat->Nat->ByteArray->ByteArray
 |0,_,_=>aA
 |f+1,e,q=>aa1 p rs (VD f) e q
def comes(e:Nat)(q:ByteArray):ByteArray:=VD p rs ((e+1)*((allNames rs).length+2)) e q
end
def iJ(s:ByteArray):List Nd:=nodes (toks (clean s))
def acw(p:oP)(JB:List ByteArray)(e:Int)(q:ByteArray):ByteArray×Int:=
 if ¬(aax p=true/\0<=e/\e<p.length) then(aA,4)
 else if 4<JB.length\/100<q.size\/JB.any (fun s=>decide (600<s.size))=true then(aA,1)
 else if JB.any (fun s=>decide (8<depth (iJ s)))=true then(aA,2)
 else(comes p (JB.flatMap (fun s=>Vx (iJ s))) e.toNat (je q),0)
structure aS where
 root:ByteArray
 props:List ByteArray
 au:List ByteArray
 ats:List ByteArray
 aO:Bool
 texts:Bool
def iM(c:UInt8):Bool:=decide (97<=c.toNat)&&decide (c.toNat<=122)
def dU(s:ByteArray):Bool:=s.data.toList.all (fun c=>iM c||c==45)&&decide (1<=s.size)&&decide (s.size<=30)
def kS(p:aS):Bool:=
 p.root.data.toList.all iM&&decide (p.root.size<=12) &&
 (decide (p.props.length<=20)&&p.props.all (fun s=>dU s&&!(pk s 0==45))) &&
 (decide (p.au.length<=20)&&p.au.all dU)&&(decide (p.ats.length<=20)&&p.ats.all dU)
def nJ(w:ByteArray):Bool:=decide (w=b1 43)||decide (w=b1 45)||decide (w=b1 42)||decide (w=b1 47)||decide (w=b1 46)||decide (w=b1 44)||decide (w=b1 37)||decide (w=b1 61)||decide (w=b1 58)
def fE(p:aS)(t:Tok):Bool:=
 if t.kind=3\/t.kind=12\/t.kind=13\/t.kind=10\/t.kind=8\/t.kind=9 then false
 else if t.kind=15 then !decide (closing t=aA)||nJ t.word
 else if t.kind=2 then p.texts
 else if t.kind=11 then p.au.contains (small t.word)
 else true
def bV(p:aS)(l:List Nd):Bool:=!zD (fun t=>!fE p t) l
def Ej(n:Nat):ByteArray:=⟨((Nat.toDigits 10 n).map (fun c=>UInt8.ofNat c.toNat)).toArray⟩
def kX(b:Nat):ByteArray:=if b=32 then b1 32 else if b=62\/b=43\/b=126 then b1 32++(b1 (UInt8.ofNat b)++b1 32) else aA
def zF(name how value:ByteArray):ByteArray:=if how=aA then b1 91++(bC name++b1 93) else b1 91++(bC name++(how++(oK value++b1 93)))
mutual
def sK:Simple->ByteArray
 |.mk kind name how value list place=>
  if kind=116 then(if name=aA then b1 42 else bC name)
  else if kind=35 then b1 35++bC name
  else if kind=46 then b1 46++bC name
  else if kind=91 then zF name how value
  else if name=lg\/name=xB then b1 58++(name++(b1 40++(gU aA list++b1 41)))
  else if name=iR then b1 58++(name++(b1 40++((if place=0 then qC else if place=1 then kH else Ej (place-2))++b1 41)))
  else b1 58++name
def lq:List Simple->ByteArray
 |[]=>aA
 |s::r=>sK s++lq r
def YU:Nat×List Simple->ByteArray
 |(b,all)=>kX b++lq all
def dJ:List (Nat×List Simple)->ByteArray
 |[]=>aA
 |t::r=>YU t++dJ r
def gU(ahead:ByteArray):List (List (Nat×List Simple))->ByteArray
 |[]=>aA
 |c::r=>ahead++(dJ c++oZ ahead r)
def oZ(ahead:ByteArray):List (List (Nat×List Simple))->ByteArray
 |[]=>aA
 |c::r=>b1 44++(ahead++(dJ c++oZ ahead r))
end
def SQ:ByteArray:=⟨#[33,105,109,112,111,114,116,97,110,116]⟩
def kK(p:aS)(d:Dec):Bool:=(if custom d.prop=true then p.aO else p.props.contains d.prop)&&bV p d.val&&!d.val.isEmpty
def kD(d:Dec):ByteArray:=bC d.prop++(b1 58++(written d.val++(if d.imp=true then SQ else aA)))
def gI(sep:ByteArray):List ByteArray->ByteArray
 |[]=>aA
 |[a]=>a
 |a::b::r=>a++(sep++gI sep (b::r))
def pX(p:aS)(l:List Nd):ByteArray:=gI (b1 59) (((decls l).filter (kK p)).map kD)
def nK(p:aS):ByteArray:=if p.root=aA then aA else b1 46++(p.root++b1 32)
def Em(p:aS)(r:Rule)(b:List Nd):ByteArray:=
 match zx r.head with
 |none=>aA
 |some s=>if pX p b=aA then aA else gU (nK p) s++(b1 123++(pX p b++b1 125))
def mD(h:List Nd):ByteArray:=if h=[] then aA else b1 32++written h
def gX(p:aS)(rec:List Nd->ByteArray)(r:Rule):ByteArray:=
 match r.at_,r.body with
 |some w,some b=>
  if p.ats.contains (small w)=true/\bV p (bare r.head)=true then
   (if rec b=aA then aA else b1 64++(bC (small w)++(mD (bare r.head)++(b1 123++(rec b++b1 125)))))
  else aA
 |none,some b=>Em p r b
 |_,none=>aA
def oQ(p:aS):Nat->Bool->List Nd->ByteArray
 |0,sh,l=>cat ((rules sh l).map (gX p (fun _=>aA)))
 |f+1,sh,l=>cat ((rules sh l).map (gX p (oQ p f false)))
def jM(s:ByteArray)(p:aS):ByteArray×Int:=
 if kS p=false then(aA,5)
 else if 600<s.size then(aA,1)
 else if 8<depth (iJ s) then(aA,2)
 else(oQ p (depth (iJ s)) true (iJ s),0)
end Go.Proofs.YtlliliddljkbfaaGreatDoor.Sp
namespace Go.Proofs.YtlliliddljkbfaaGreatDoor.Sp
set_option maxHeartbeats 64000000
set_option maxRecDepth 100000
abbrev Stack:=List (Tok×List Nd)
def fin:Stack->List Tok->List Nd
 |[],_=>[]
 |[(_,ins)],ts=>ins++(kids aA ts).1
 |(t,ins)::(t2,xX)::R,ts=>fin ((t2,xX++[.mk t (ins++(kids (closing t) ts).1)])::R) (kids (closing t) ts).2
termination_by s=>s.length
def dst:Stack->Nat
 |[]=>0
 |(_,ins)::R=>max (R.length+depth ins) (dst R)
def lV:Stack->Prop
 |[]=>False
 |[(t,_)]=>closing t=aA
 |(t,_)::r::R=>closing t≠aA/\lV (r::R)
theorem vZ(t:Tok)(ins:List Nd)(ts:List Tok):fin [(t,ins)] ts=ins++(kids aA ts).1:=by unfold fin;rfl
theorem sN(t t2:Tok)(ins xX:List Nd)(R:Stack)(ts:List Tok):fin ((t,ins)::(t2,xX)::R) ts=fin ((t2,xX++[.mk t (ins++(kids (closing t) ts).1)])::R) (kids (closing t) ts).2:=by conv=>lhs;unfold fin
theorem GV(t:Tok):closing t=aA\/closing t=b1 41\/closing t=b1 93\/closing t=b1 125:=by
 unfold closing;repeat' split
 all_goals simp
theorem Le{t t0:Tok}(h:ay t (closing t0)=true)(h0:closing t0≠aA):closing t=aA:=by
 unfold ay at h;simp at h;obtain⟨h1,h2⟩:=h;unfold closing;rw[if_neg (by omega),if_pos h1,h2];rcases GV t0 with e|e|e|e
 .exact absurd e h0
 all_goals rw[e];decide
theorem VE{t:Tok}(h:closing t≠aA)(t0:Tok)(ins:List Nd)(R:Stack)(r:List Tok)(hO:lV ((t0,ins)::R)):fin ((t,[])::(t0,ins)::R) r=fin ((t0,ins)::R) (t::r):=by
 have hi:inside t r=kids (closing t) r:=by unfold inside;rw[if_neg h]
 rw[sN];have hne:¬(closing t0≠aA/\ay t (closing t0)=true):=fun q=>h (Le q.2 q.1);cases R with
 |nil=>rw[vZ,vZ,kQ (fun q=>q.1 rfl),hi];simp
 |cons x R=>obtain⟨t2,xX⟩:=x;rw[sN,sN,kQ hne,hi];simp
theorem SS{t t0:Tok}(ins:List Nd)(t2:Tok)(xX:List Nd)(R:Stack)(r:List Tok)(h:ay t (closing t0)=true)(h0:closing t0≠aA):fin ((t0,ins)::(t2,xX)::R) (t::r)=fin ((t2,xX++[.mk t0 ins])::R) r:=by rw[sN,qP ⟨h0,h⟩];simp
theorem VF{t:Tok}(h:closing t=aA)(t0:Tok)(ins:List Nd)(R:Stack)(r:List Tok)(hn:¬(closing t0≠aA/\ay t (closing t0)=true)):fin ((t0,ins++[.mk t []])::R) r=fin ((t0,ins)::R) (t::r):=by
 have hi:inside t r=([],r):=by unfold inside;rw[if_pos h]
 cases R with
 |nil=>rw[vZ,vZ,kQ (fun q=>q.1 rfl),hi];simp
 |cons x R=>obtain⟨t2,xX⟩:=x;rw[sN,sN,kQ hn,hi];simp
theorem YV(t0:Tok)(ins:List Nd)(t2:Tok)(xX:List Nd)(R:Stack):fin ((t0,ins)::(t2,xX)::R) []=fin ((t2,xX++[.mk t0 ins])::R) []:=by rw[sN,kJ];simp
theorem SV(t0:Tok)(ins:List Nd)(t2:Tok)(xX:List Nd)(R:Stack)(h0:closing t0≠aA):dst ((t2,xX++[.mk t0 ins])::R)=dst ((t0,ins)::(t2,xX)::R):=by simp only[dst,sF,mY (n:=.mk t0 ins) h0,List.length_cons,Nd.YL];omega
theorem VG{t:Tok}(h:closing t=aA)(t0:Tok)(ins:List Nd)(R:Stack):dst ((t0,ins++[.mk t []])::R)=dst ((t0,ins)::R):=by simp only[dst,sF,uO (n:=.mk t []) h];omega
theorem VH(t:Tok)(R:Stack):dst ((t,[])::R)=max (dst R) R.length:=by simp only[dst,depth];omega
theorem lV.ne{S:Stack}(h:lV S):S≠[]:=by rintro rfl;exact h
theorem lV.push{S:Stack}(h:lV S){t:Tok}(ht:closing t≠aA)(ins:List Nd):lV ((t,ins)::S):=by
 cases S with
 |nil=>exact h.elim
 |cons r R=>exact⟨ht,h⟩
theorem lV.same{t:Tok}{i j:List Nd}{R:Stack}(h:lV ((t,i)::R)):lV ((t,j)::R):=by
 cases R with
 |nil=>exact h
 |cons r R=>exact h
theorem lV.pop{t t2:Tok}{i i2 j:List Nd}{R:Stack}(h:lV ((t,i)::(t2,i2)::R)):closing t≠aA/\lV ((t2,j)::R):=⟨h.1,lV.same (i:=i2) h.2⟩
theorem S9(ts:List Tok):fin [(Tok.k 0,[])] ts=nodes ts:=by rw[vZ];rfl
end Go.Proofs.YtlliliddljkbfaaGreatDoor.Sp
namespace Go.Proofs.YtlliliddljkbfaaGreatDoor
set_option maxHeartbeats 64000000
set_option maxRecDepth 100000
open Go.RowKit Sp
section
structure Fr where
 tok:Tok
 ins:List Nd
 v:Value
 cs:List Value
def Fr.cells(f:Fr):List Value:=[.int .i64 f.tok.kind,.string f.tok.word,.string f.tok.unit,.string (closing f.tok),f.v]
def zG(base:Nat)(w:World)(v:Value)(L:List Fr)(b:Nat):Prop:=base<=b/\b<w.heap.size/\some b≠v.ownBlock/\∀f∈L,some b≠f.v.ownBlock
structure sO(base:Nat)(w:World)(v:Value)(L:List Fr):Prop where
 row:w.ownsRow base 164 5 v L.length (L.flatMap Fr.cells)
 own:∀f∈L,w.ownsRow base 168 4 f.v f.ins.length f.cs
 kid:∀f∈L,kY (zG base w v L) w f.ins f.cs
 ok:∀f∈L,cZ f.tok
 dist:L.Pairwise (fun a b=>∀k,a.v.ownBlock=some k->b.v.ownBlock≠some k)
def mJ(L:List Fr):Stack:=(L.map (fun f=>(f.tok,f.ins))).reverse
theorem dV(L:List Fr)(f:Fr):mJ (L++[f])=(f.tok,f.ins)::mJ L:=by simp[mJ]
theorem Lh(L:List Fr):(mJ L).length=L.length:=by simp[mJ]
theorem lu(L:List Fr):(L.flatMap Fr.cells).length=L.length*5:=by
 induction L with
 |nil=>rfl
 |cons f r ih=>simp only[List.flatMap_cons,List.length_append,ih,Fr.cells,List.length_cons,List.length_nil];omega
theorem aX{w w':World}{base e s n:Nat}{v:Value}{xs:List Value}(h:w.ownsRow base e s v n xs)(hw:∀g,v.ownBlock=some g->w'.heap[g]?=w.heap[g]?):w'.ownsRow base e s v n xs:=by
 refine⟨h.1,?_⟩;rcases h.2 with hn|⟨g,cap,cur,rfl,hbg,hgg,rest⟩
 .exact .inl hn
 .exact .inr ⟨g,cap,cur,rfl,hbg,by rw[hw g rfl];exact hgg,rest⟩
section
variable {base:Nat} {w w':World} {v:Value} {L:List Fr}
theorem sO.keep(h:sO base w v L)(hs:w.heap.size<=w'.heap.size)(hw:∀g,base<=g->g<w.heap.size->w'.heap[g]?=w.heap[g]?):sO base w' v L:=
 ⟨aX h.row fun g hg=>hw g (h.row.lt g hg).1 (h.row.lt g hg).2,
  fun f hf=>aX (h.own f hf) fun g hg=>hw g ((h.own f hf).lt g hg).1 ((h.own f hf).lt g hg).2,
  fun f hf=>(h.kid f hf).keep (fun g hg=>⟨hg.1,by have:=hg.2.1;omega,hg.2.2⟩) fun g hg=>hw g hg.1 hg.2.1,h.ok,h.dist⟩
theorem sO.apart(h:sO base w v L){f:Fr}(hf:f∈L)(k:Nat)(hk:v.ownBlock=some k):f.v.ownBlock≠some k:=Bd h.row (h.own f hf) (by decide) k hk
theorem sO.drop{f:Fr}(h:sO base w v (L++[f]))(h6:f.ins.length<=600){g n cap:Nat}(e:v=.slice (some ⟨g,0,none⟩) n cap):
  sO base w (.slice (some ⟨g,0,none⟩) L.length cap) L/\Sl (zG base w (.slice (some ⟨g,0,none⟩) L.length cap) L) w f.v f.ins:=by
 subst e;have hl:=h.row.1;have hrow:w.ownsRow base 164 5 (.slice (some ⟨g,0,none⟩) L.length cap) L.length (L.flatMap Fr.cells):=by
  refine⟨lu L,.inr ?_⟩;rcases h.row.2 with⟨hv,_⟩|⟨g',cap',cur,hv,hbg,hgg,hnc,hcm,hcs,htk⟩
  .cases hv
  .cases hv;refine⟨g,cap,cur,rfl,hbg,hgg,by simp at hnc;omega,hcm,hcs,?_⟩;have h1:(cur.toList.take ((L++[f]).length*5)).take (L.length*5)=cur.toList.take (L.length*5):=by
    rw[List.take_take,Nat.min_eq_left (by simp only[List.length_append,List.length_cons,List.length_nil];omega)]
   rw[<-h1,htk,List.flatMap_append,<-lu L,List.take_left'];rfl
 have hS:∀b,zG base w (.slice (some ⟨g,0,none⟩) n cap) (L++[f]) b->zG base w (.slice (some ⟨g,0,none⟩) L.length cap) L b:=fun b hb=>⟨hb.1,hb.2.1,hb.2.2.1,fun q hq=>hb.2.2.2 q (by simp[hq])⟩;have hdist:=List.pairwise_append.1 h.dist;refine⟨⟨hrow,fun q hq=>h.own q (by simp[hq]),fun q hq=>(h.kid q (by simp[hq])).keep hS fun _ _=>rfl,fun q hq=>h.ok q (by simp[hq]),hdist.1⟩,?_⟩;have ho:=h.own f (by simp);have hk:kY (zG base w (.slice (some ⟨g,0,none⟩) L.length cap) L) w f.ins f.cs:=(h.kid f (by simp)).keep hS fun _ _=>rfl;rcases ho.2 with⟨hv,hn⟩|⟨g',cap',cur,hv,hbg,hgg,hnc,hcm,hcs,htk⟩
 .have:f.ins=[]:=List.eq_nil_of_length_eq_zero hn;rw[hv,this];exact Sl.nil _ _
 .rw[hv];have hf1:some g'≠Value.ownBlock (.slice (some ⟨g,0,none⟩) L.length cap):=by
   intro e;have:=h.apart (f:=f) (by simp) g rfl;rw[hv]at this;exact this (by rw[show Value.ownBlock (.slice (some ⟨g,0,none⟩) L.length cap)=some g from rfl]at e;cases e;rfl)
  have hf2:∀q∈L,some g'≠q.v.ownBlock:=by intro q hq e;exact hdist.2.2 q hq f (by simp) g' e.symm (by rw[hv];rfl)
  refine⟨_,cap',rfl,⟨hnc,h6⟩,fun _=>⟨g',0,rfl,kY.lies ⟨hbg,(Array.getElem?_eq_some_iff.1 hgg).1,hf1,hf2⟩ f.ins f.cs 0 hk fun j u hu=>?_⟩⟩;have:=ho.cells (g:=g') (by rw[hv];rfl) j u hu;rw[Addr.add_lit,Nat.zero_add]at this;rw[Nat.zero_add];exact this
theorem sO.push(h:sO base w v L)(t:Tok)(ht:cZ t){v2:Value}
  (hrow:w'.ownsRow base 164 5 v2 (L.length+1) (L.flatMap Fr.cells++[.int .i64 t.kind,.string t.word,.string t.unit,.string (closing t),.slice none 0 0]))
  (hs:w.heap.size<=w'.heap.size) (hw:∀g,g<w.heap.size->some g≠v.ownBlock->w'.heap[g]?=w.heap[g]?) (hat:v2.ownBlock=v.ownBlock\/∃b,v2.ownBlock=some b/\w.heap.size<=b):
  sO base w' v2 (L++[⟨t,[],.slice none 0 0,[]⟩]):=by
 have hnv:∀g,g<w.heap.size->some g≠v.ownBlock->some g≠v2.ownBlock:=by
  intro g hg h1;rcases hat with e|⟨b,e,hb⟩
  .rw[e];exact h1
  .rw[e];intro e2;cases e2;omega
 have hS:∀b,zG base w v L b->zG base w' v2 (L++[⟨t,[],.slice none 0 0,[]⟩]) b:=fun b hb=>⟨hb.1,by have:=hb.2.1;omega,hnv b hb.2.1 hb.2.2.1,fun q hq=>by
  rcases List.mem_append.1 hq with h1|h1
  .exact hb.2.2.2 q h1
  .rw[List.mem_singleton.1 h1];simp[Value.ownBlock]⟩
 have hnew:∀q∈L++[(⟨t,[],.slice none 0 0,[]⟩:Fr)],q∈L\/q=⟨t,[],.slice none 0 0,[]⟩:=fun q hq=>by simpa using hq
 refine⟨?_,fun q hq=>?_,fun q hq=>?_,fun q hq=>?_,?_⟩
 .rw[List.length_append,List.flatMap_append];simpa[Fr.cells]using hrow
 .rcases hnew q hq with h1|rfl
  .exact aX (h.own q h1) fun g hg=>hw g ((h.own q h1).lt g hg).2 fun e=>h.apart h1 g e.symm hg
  .exact World.ownsRow_nil _ _ _ _
 .rcases hnew q hq with h1|rfl
  .exact(h.kid q h1).keep hS fun g hg=>hw g hg.2.1 hg.2.2.1
  .rfl
 .rcases hnew q hq with h1|rfl
  .exact h.ok q h1
  .exact ht
 .refine List.pairwise_append.2 ⟨h.dist,by simp,fun a _ b hb k _=>?_⟩;rw[List.mem_singleton.1 hb];simp[Value.ownBlock]
theorem YW(xs:List Value)(k:Nat)(hk:xs.length=k*5)(a b c d e e2:Value):(xs++[a,b,c,d,e]).set (k*5+4) e2=xs++[a,b,c,d,e2]:=by rw[<-hk,List.set_append_right _ _ oo];simp
theorem sO.grow{f:Fr}(h:sO base w v (L++[f])){n:Nd}{kv:Value}(hk:Sl (zG base w v (L++[f])) w kv n.kids/\cZ n.t){v2:Value}{cs2:List Value}
  (hcs:cs2=f.cs++[.int .i64 n.t.kind,.string n.t.word,.string n.t.unit,kv])
  (hown:w'.ownsRow base 168 4 v2 (f.ins.length+1) cs2)
  (hrow:w'.ownsRow base 164 5 v (L.length+1) (L.flatMap Fr.cells++[.int .i64 f.tok.kind,.string f.tok.word,.string f.tok.unit,.string (closing f.tok),v2]))
  (hs:w.heap.size<=w'.heap.size) (hw:∀g,g<w.heap.size->some g≠v.ownBlock->some g≠f.v.ownBlock->w'.heap[g]?=w.heap[g]?) (hat:v2.ownBlock=f.v.ownBlock\/∃b,v2.ownBlock=some b/\w.heap.size<=b):
  sO base w' v (L++[⟨f.tok,f.ins++[n],v2,cs2⟩]):=by
 subst hcs;have hdist:=List.pairwise_append.1 h.dist;have hn2:∀g,g<w.heap.size->some g≠f.v.ownBlock->some g≠v2.ownBlock:=by
  intro g hg h1;rcases hat with e|⟨b,e,hb⟩
  .rw[e];exact h1
  .rw[e];intro e2;cases e2;omega
 have hS:∀b,zG base w v (L++[f]) b->zG base w' v (L++[⟨f.tok,f.ins++[n],v2,f.cs++[.int .i64 n.t.kind,.string n.t.word,.string n.t.unit,kv]⟩]) b:=fun b hb=>⟨hb.1,by have:=hb.2.1;omega,hb.2.2.1,fun q hq=>by
  rcases List.mem_append.1 hq with h1|h1
  .exact hb.2.2.2 q (by simp[h1])
  .rw[List.mem_singleton.1 h1];exact hn2 b hb.2.1 (hb.2.2.2 f (by simp))⟩
 have hW:∀g,zG base w v (L++[f]) g->w'.heap[g]?=w.heap[g]?:=fun g hg=>hw g hg.2.1 hg.2.2.1 (hg.2.2.2 f (by simp));have hnew:∀q∈L++[(⟨f.tok,f.ins++[n],v2,f.cs++[.int .i64 n.t.kind,.string n.t.word,.string n.t.unit,kv]⟩:Fr)],q∈L\/q=⟨f.tok,f.ins++[n],v2,f.cs++[.int .i64 n.t.kind,.string n.t.word,.string n.t.unit,kv]⟩:=fun q hq=>by simpa using hq
 refine⟨?_,fun q hq=>?_,fun q hq=>?_,fun q hq=>?_,?_⟩
 .rw[List.length_append,List.flatMap_append];simpa[Fr.cells]using hrow
 .rcases hnew q hq with h1|rfl
  .exact aX (h.own q (by simp[h1])) fun g hg=>hw g ((h.own q (by simp[h1])).lt g hg).2 (fun e=>h.apart (f:=q) (by simp[h1]) g e.symm hg) (fun e=>hdist.2.2 q h1 f (by simp) g hg e.symm)
  .simpa using hown
 .rcases hnew q hq with h1|rfl
  .exact(h.kid q (by simp[h1])).keep hS hW
  .exact kY.snoc _ _ ((h.kid f (by simp)).keep hS hW) n kv ⟨hk.1.keep hS hW,hk.2⟩
 .rcases hnew q hq with h1|rfl
  .exact h.ok q (by simp[h1])
  .exact h.ok f (by simp)
 .refine List.pairwise_append.2 ⟨hdist.1,by simp,fun a ha b hb k hk=>?_⟩;rw[List.mem_singleton.1 hb];have:=((h.own a (by simp[ha])).lt k hk).2;rcases hat with e|⟨b',e,hb'⟩
  .show v2.ownBlock≠some k;rw[e];exact hdist.2.2 a ha f (by simp) k hk
  .show v2.ownBlock≠some k;rw[e];intro e2;cases e2;omega
theorem sO.put{f:Fr}(h:sO base w v (L++[f])){g co:Nat}(e:v=.slice (some ⟨g,0,none⟩) (L.length+1) co)(n:Nd)(kv:Value)(hk:Sl (zG base w v (L++[f])) w kv n.kids/\cZ n.t){W w4:World}{gv vc:Nat}{z0 z1 z2 z3:Value}
  (hWs:w.heap.size<=W.heap.size) (hW:∀k,k<w.heap.size->W.heap[k]?=w.heap[k]?)
  (hown:w4.ownsRow base 168 4 (.slice (some ⟨gv,0,none⟩) (f.ins.length+1) vc) (f.ins.length+1) (f.cs++[z0,z1,z2,z3])) (hgr:W.grownBy w4 f.v.ownBlock) (hat:some gv=f.v.ownBlock\/some gv=some W.heap.size):
  sO base (((((w4.setCell ⟨g,L.length*5+4,none⟩ (.slice (some ⟨gv,0,none⟩) (f.ins.length+1) vc)).setCell ⟨gv,f.ins.length*4,none⟩ (.int .i64 n.t.kind)).setCell ⟨gv,f.ins.length*4+1,none⟩ (.string n.t.word)).setCell ⟨gv,f.ins.length*4+2,none⟩ (.string n.t.unit)).setCell ⟨gv,f.ins.length*4+3,none⟩ kv)
   v (L++[⟨f.tok,f.ins++[n],.slice (some ⟨gv,0,none⟩) (f.ins.length+1) vc,f.cs++[.int .i64 n.t.kind,.string n.t.word,.string n.t.unit,kv]⟩]):=by
 have hap:some g≠f.v.ownBlock:=fun e2=>h.apart (f:=f) (by simp) g (by rw[e];rfl) e2.symm;have hgo:=h.row.lt g (by rw[e];rfl);have hrow0:w.ownsRow base 164 5 v (L.length+1) (L.flatMap Fr.cells++[.int .i64 f.tok.kind,.string f.tok.word,.string f.tok.unit,.string (closing f.tok),f.v]):=by have:=h.row;rw[List.length_append,List.flatMap_append]at this;simpa[Fr.cells]using this
 have Vo:=aX (w':=W) hrow0 fun k hk=>hW k (hrow0.lt k hk).2;have row4:=Vo.kept hgr (.inr (by rw[e];exact hap));have hcl:f.cs.length=f.ins.length*4:=(h.own f (by simp)).1;have hs:=hgr.size;have hne:gv≠g:=by
  rintro rfl;rcases hat with e2|e2
  .exact hap e2
  .cases e2;omega
 subst e;obtain⟨s5,g5⟩:=row4.stored (L.length*5+4) (.slice (some ⟨gv,0,none⟩) (f.ins.length+1) vc);have o5:=hown.kept g5 (.inr (by simp[Value.ownBlock];exact hne));obtain⟨o6,g6⟩:=o5.stored (f.ins.length*4) (.int .i64 n.t.kind);obtain⟨o7,g7⟩:=o6.stored (f.ins.length*4+1) (.string n.t.word);obtain⟨o8,g8⟩:=o7.stored (f.ins.length*4+2) (.string n.t.unit);obtain⟨o9,g9⟩:=o8.stored (f.ins.length*4+3) kv;rw[KZ _ _ hcl]at o9;rw[YW _ _ (lu L)]at s5;have hro:Value.ownBlock (.slice (some ⟨g,0,none⟩) (L.length+1) co)≠some gv:=by simp[Value.ownBlock];exact fun e=>hne e.symm
 have s9:=(((s5.kept g6 (.inr hro)).kept g7 (.inr hro)).kept g8 (.inr hro)).kept g9 (.inr hro);have hz5:=g5.size;have hz6:=g6.size;have hz7:=g7.size;have hz8:=g8.size;have hz9:=g9.size;refine h.grow hk rfl o9 s9 oo (fun k hk h2 h1=>?_) ?_
 .have hgg:some k≠some gv:=by
   rcases hat with e2|e2
   .rw[e2];exact h1
   .cases e2;intro e3;cases e3;omega
  rw[g9.block k oo hgg,g8.block k oo hgg,g7.block k oo hgg,g6.block k oo hgg,g5.block k oo h2,hgr.block k oo h1,hW k hk]
 .rcases hat with e2|e2
  .exact .inl e2
  .cases e2;exact .inr ⟨_,rfl,hWs⟩
end
theorem JC(w:World){a b:Addr}(h:a.block≠b.block)(x y:Value):(w.setCell a x).setCell b y=(w.setCell b y).setCell a x:=by
 unfold World.setCell;simp only;congr 1
 apply Array.ext_getElem?
 intro i;simp only[Array.getElem?_modify];by_cases h1:a.block=i
 .have h2:¬b.block=i:=fun e=>h (h1.trans e.symm);simp[h1,h2]
 .simp[h1]
end
end Go.Proofs.YtlliliddljkbfaaGreatDoor
