import Derived.Test.YtdohnkkbkfhphaaGreatPw34
set_option linter.all false
set_option maxHeartbeats 16000000
set_option maxRecDepth 100000
open Go.ChangeShapes Go.WideShapes Go.ChangeAt Go.RowKit List
open Inhabited renaming default->ϰ
namespace Go.Proofs.YtdohnkkbkfhphaaGreat
open Go.Proofs.Tryz
namespace jn
open vl bf
attribute [local go_sem] Oper.semAt_some
variable {p : pl.Pln}
noncomputable def AZ(p:pl.Pln)(l:List Ev):Int×Jn×List ch.Chg×List Int:=if pl.Al p≠0 then(pl.Al p,j0,[],[])else Fp p (Aw p) l
theorem GR(h:pl.Al p=0):Aw p=⟨⟨p.limit,[],[]⟩,⟨p.limit,[],[]⟩,noMark,noMark,0⟩:=if_pos h
theorem Hm(h:pl.Al p=0)(w:ϛ):joinAt w (Aw p) jx0:=by
 rw[GR h];exact jAt.at (s0:=j0) (y0:=jx0) (w:=w) (wr:=w) ⟨bR,.inr ⟨Bg (BD nR),Bg (BD nR)⟩⟩
theorem AaA(h:pl.Al p=0):wfJ (Aw p):=by
 rw[GR h];exact⟨⟨λy a=>absurd a not_mem_nil,Nat.zero_le _⟩,⟨λy a=>absurd a not_mem_nil,Nat.zero_le _⟩,⟨by show(-9223372036854775808:Int)<=0;decide,by show(0:Int)<=9223372036854775807;decide⟩⟩
theorem TG.mono{w:ϛ}{base base':Nat}{v:Value}{L:List CO}(h:TG w base v L)(a:base'<=base):TG w base' v L:=⟨World.ownsRow.mono h.own a,h.rows⟩
theorem La{s0:Jn}{y0:JX}{wr d:ϛ}{s:Jn}{y:JX}{N:Nat}(h:jAt s0 y0 d wr s y)(c:∀W,joinAt W s0 y0)(b:An wr N 31)(l:List Value):joinAt (wr.setCells N 0 l) s y:=by
 rcases h.2 with a|a
 ·obtain⟨⟨rfl,rfl⟩,_⟩:=a;exact c _
 ·exact⟨(Bm Dn _ _ _ a.1 b).at,(Bm Dn _ _ _ a.2 b).at⟩
theorem Tf(p:pl.Pln)(x:pl.PA)(l:List Ev)(xs:List RX)(Y:Ϝ)(lc:Nat)(w:ϛ)(hw:pl.wfPlan p)(hp:pl.planAt w p x)(hv:Gi w Y l xs)(hn:l.length<=χ):
 η 19 #[pl.Ak p x,vS Y l.length lc] w λe m=>(∃d t L k,e= .returned (.tuple #[joinV (AZ p l).2.1 d,t,k,vI (AZ p l).1])/\L.map CO.chg=(AZ p l).2.2.1/\joinAt m (AZ p l).2.1 d/\TG m w t L/\pl.Dm m w k (AZ p l).2.2.2)/\Ϟ w m:=by
 have A:=hIz (λ(a:ϛ) (X:Ϟ w a)=>I3 p x a hw (pl.Aj hp X));have B:ϝ (pl.Al p=0->∀a Q,Ϟ w a->boxP a Q p x->CT 53 #[joinV (Aw p) jx0,vS Y l.length lc,.func (.func 54) #[] #[μ Q]] a λe m=>(∃d t L k,e= .returned (.tuple #[joinV (Fp p (Aw p) l).2.1 d,t,k,vI (Fp p (Aw p) l).1])/\L.map CO.chg=(Fp p (Aw p) l).2.2.1/\jAt (Aw p) jx0 a m (Fp p (Aw p) l).2.1 d/\TG m a t L/\pl.Dm m a k (Fp p (Aw p) l).2.2.2)/\Ϟ a m):=λh a Q X al=>XH p x (Aw p) jx0 l xs Y lc Q a hw (pl.Aj hp X) al (Hm h a) (AaA h) (Iq hv X) hn;have ag:ϝ (pl.Al p=0->∀W,joinAt W (Aw p) jx0):=λh W=>Hm h W;obtain⟨PA,aa⟩:=nM (AZ p l);have i:ϝ (PA=if pl.Al p≠0 then(pl.Al p,j0,[],[])else Fp p (Aw p) l):=aa.symm;rw[aa];clear aa;obtain⟨PR,ai⟩:=nM (Fp p (Aw p) l);obtain⟨S,hS⟩:=nM (Aw p);obtain⟨E,R⟩:=nM (pl.Al p);obtain⟨n,ae⟩:=nM l.length;rw[ai]at B i;rw[hS,R,ae]at B;rw[hS,R]at A ag;rw[R]at i;rw[ae];obtain⟨RE,j,T,N⟩:=PR;dsimp only at B;clear ai hS R ae hw hp hv hn;unfold pl.Ak at A⊢;rw[A0 S jx0]at A B;go_enter func19,ntmps19;go_wp2_with fail;generalize U:(World.alloc (World.alloc w _) _)=V;have ab:Ϟ w V:=by rw[<-U];exact Ϫ.alloc ϡ _
 have z:ϝ (boxP V w p x):=by
  subst U;exact Ad (BL ..) Ϫ
 have c:ϝ (noJ V (w+1)/\An V (w+1) 31):=by
  subst U;have h1:=EP (ξ w (Φ p x) 25);have h2:=World.alloc_heap_new (ξ w (Φ p x) 25) (.cells #[ω,ψ,ψ,ω,ψ,ψ,ω,ω,ω] 31);rw[World.size_alloc]at h1 h2;exact⟨h1,_,_,h2⟩
 clear U;refine(A.o _ ab).mono ?_;rintro e a ⟨rfl,C⟩;have aj:Ϟ w a:=bT ab C;replace z:ϝ (boxP a w p x):=Ad z.o C;replace c:ϝ (noJ a (w+1)/\An a (w+1) 31):=⟨Ay c.o.1 C,Ae c.o.2 C⟩;have lz:(w.heap.size+1)<a.heap.size:=TI c.o.1;clear ab C A;by_cases Z:E=0
 ·subst Z;rw[if_neg Ϡ]at i;go_upto_region 4 with fail;generalize u:(World.alloc a _)=f;have r:Ϟ a f:=by rw[<-u];exact Ϫ
  have af:ϝ (AK f a S jx0):=by
   subst u;exact AL ..
  clear u;have y:Ϟ w f:=bT aj r;obtain⟨u0,u1,u2,u3,u4,u5,u6,u7,u8⟩:=af.o;replace c:ϝ (noJ f (w+1)/\An f (w+1) 31):=⟨Ay c.o.1 r,Ae c.o.2 r⟩;replace z:ϝ (boxP f w p x):=Ad z.o r;go_wp2_with fail;refine(B.o ϧ f w.heap.size y z.o).mono ?_;rintro e o ⟨⟨d,t,L,k,rfl,hl,hj,ht,ad⟩,ac⟩;clear u0 u1 u2 u3 u4 u5 u6 u7 u8 af;have ak:Ϟ w o:=bT y ac;replace c:ϝ (noJ o (w+1)/\An o (w+1) 31):=⟨Ay c.o.1 ac,Ae c.o.2 ac⟩;have HL:=hV0 hl;have HJ:ϝ (joinAt (World.setCells o (w.heap.size+1) 0 (Γ j d)) j d):=La hj (ag.o ϧ) c.o.2 _;have HT:ϝ (TG (World.setCells o (w.heap.size+1) 0 (Γ j d)) w.heap.size t L):=(ht.mono y.size).keep (CM _ _ _ c.o.2) Ϡ Ϡ;have ah:ϝ (pl.Dm (World.setCells o (w.heap.size+1) 0 (Γ j d)) w.heap.size k N):=World.ownsRow.mono (A2 ad (λg hg=>(CM _ _ _ c.o.2).2 g _ (A6 ad hg) Ϡ)) y.size;have b:ϝ ((World.setCells o (w.heap.size+1) 0 (Γ j d)).rangeAt (w.heap.size+1) 0 (Γ j d)):=CX c.o.1 rfl;have q:ϝ (Ϟ w (World.setCells o (w.heap.size+1) 0 (Γ j d))):=below_setCells ϟ _ 0 _ ak;clear hl hj ht ad;rw[A0];go_wp2_with ((with_reducible refine wpList_store_mid ?_ 31 (.tmp 4) (.tmp 23) ?_ (w.heap.size+1) 0 (Ψ j d) ?_ ?_ ?_ ?_ ?_ ?_);exact rfl;exact rfl;exact rfl;exact rfl;exact c.o.1;exact BU;exact Ϩ);generalize (World.setCells o (w.heap.size+1) 0 (Γ j d))=W' at b q HJ HT ah⊢;have D:=b.o 0 _ rfl;have F:=b.o 1 _ rfl;have G:=b.o 2 _ rfl;have H:=b.o 3 _ rfl;have I:=b.o 4 _ rfl;have J:=b.o 5 _ rfl;have M:=b.o 6 _ rfl;have O:=b.o 7 _ rfl;have P:=b.o 8 _ rfl;simp only[Nat.zero_add]at D F G H I J M O P;exact bodyPost_ret (v:=.tuple #[.agg (Ψ j d),t,k,vI RE]) (by simp[results,results19,go_sem,D,F,G,H,I,J,M,O,P]) rfl ⟨⟨d,t,L,k,by rw[i.o];rfl,by rw[i.o];exact HL.o,by rw[i.o];exact HJ.o,HT.o,by rw[i.o];exact ah.o⟩,q.o⟩
 ·have am:(E !=0)=true:=by simpa using Z
  rw[if_pos Z]at i;go_upto_region 3 with fail;generalize u:(World.alloc a _)=f;have r:Ϟ a f:=by rw[<-u];exact Ϫ
  clear u;have y:Ϟ w f:=bT aj r;replace c:ϝ (noJ f (w+1)/\An f (w+1) 31):=⟨Ay c.o.1 r,Ae c.o.2 r⟩;have b:ϝ ((World.setCells f (w.heap.size+1) 0 [ω,ψ,ψ,ω,ψ,ψ,ω,ω,ω]).rangeAt (w.heap.size+1) 0 [ω,ψ,ψ,ω,ψ,ψ,ω,ω,ω]):=CX c.o.1 rfl;have q:ϝ (Ϟ w (World.setCells f (w.heap.size+1) 0 [ω,ψ,ψ,ω,ψ,ψ,ω,ω,ω])):=below_setCells ϟ _ 0 _ y;go_wp2_with ((with_reducible refine wpList_store_mid ?_ 31 (.tmp 4) (.tmp 17) ?_ (w.heap.size+1) 0 #[ω,ψ,ψ,ω,ψ,ψ,ω,ω,ω] ?_ ?_ ?_ ?_ ?_ ?_);exact rfl;exact rfl;exact rfl;exact rfl;exact c.o.1;exact BU;exact Ϩ);generalize (World.setCells f (w.heap.size+1) 0 [ω,ψ,ψ,ω,ψ,ψ,ω,ω,ω])=W' at b q⊢;have D:=b.o 0 _ rfl;have F:=b.o 1 _ rfl;have G:=b.o 2 _ rfl;have H:=b.o 3 _ rfl;have I:=b.o 4 _ rfl;have J:=b.o 5 _ rfl;have M:=b.o 6 _ rfl;have O:=b.o 7 _ rfl;have P:=b.o 8 _ rfl;simp only[Nat.zero_add]at D F G H I J M O P;exact bodyPost_ret (v:=.tuple #[.agg #[ω,ψ,ψ,ω,ψ,ψ,ω,ω,ω],ψ,ψ,vI E]) (by simp[results,results19,go_sem,D,F,G,H,I,J,M,O,P]) rfl ⟨⟨jx0,ψ,[],ψ,by rw[i.o];rfl,by rw[i.o];rfl,by rw[i.o];exact jAt.at (s0:=j0) (y0:=jx0) (w:=w) ⟨q.o,.inr ⟨Bg (BD q.o.size),Bg (BD q.o.size)⟩⟩,Gr _ _,by rw[i.o];exact World.ownsRow_nil _ _ _ _⟩,q.o⟩
end jn
namespace jn
open vl bf
variable {p : pl.Pln} {s : Jn} {v : Ev} {K : ByteArray}
def rw2(a b:Int):List Cel:=[⟨2,a,⟨#[]⟩⟩,⟨2,b,⟨#[]⟩⟩]
theorem EN{a b:Int}(ha: -9223372036854775808<=a/\a<=9223372036854775807)(e: -9223372036854775808<=b/\b<=9223372036854775807):Cj (rw2 a b):=by
 intro c d;simp only[rw2,mem_cons,not_mem_nil,or_false]at d;rcases d with rfl|rfl
 ·exact⟨ha,Nat.zero_le _⟩
 ·exact⟨e,Nat.zero_le _⟩
def ev1:Ev:=⟨1,1,1,rw2 7 1⟩
def ev2:Ev:=⟨1,2,2,rw2 7 2⟩
def ev3:Ev:=⟨2,1,4,[]⟩
def ev4:Ev:=⟨1,1,4,rw2 7 3⟩
def ev5:Ev:=⟨1,1,5,rw2 7 4⟩
def J9:List Ev:=[ev1,ev2,ev3,ev4,ev5]
structure begP(p:pl.Pln)(K:ByteArray):Prop where
 err:pl.Al p=0
 kind:p.kind=1
 mode:p.mode=4
 low:p.low= -5
 high:p.high=5
 limit:p.limit=2
 l:(pl.As p 1).length=2
 r:(pl.As p 2).length=2
 e1:pl.Be p 1 (rw2 7 1)=0
 e2:pl.Be p 2 (rw2 7 2)=0
 e3:pl.Be p 1 (rw2 7 3)=0
 e4:pl.Be p 1 (rw2 7 4)=0
 h1:pl.hasB p 1 (rw2 7 1)=true
 h2:pl.hasB p 2 (rw2 7 2)=true
 h4:pl.hasB p 1 (rw2 7 4)=true
 k1:pl.Ap p 1 (rw2 7 1)=K
 k2:pl.Ap p 2 (rw2 7 2)=K
 k4:pl.Ap p 1 (rw2 7 4)=K
 gone:pl.Gv p 2 4= -1
theorem Vf:begP pl.Ef (pl.Ap pl.Ef 1 (rw2 7 1)):=⟨pl.T6,rfl,rfl,rfl,rfl,rfl,rfl,rfl,Ϣ,Ϣ,Ϣ,Ϣ,Ϣ,Ϣ,Ϣ,rfl,Ϣ,Ϣ,Ϣ⟩
theorem Tg{n:Int}(h:1<=n/\n<=64):okB ⟨n,[],[]⟩:=⟨h,Ϥ,by simp[Aa,partsB],by simp[partsB],by simp[partsB],ϡ,by simp[Aa,partsB]⟩
theorem good_start(h:pl.Al p=0):goodJ p (Aw p):=by
 have c:=(pl.Bj h).2.1.2.2;have b:Aa ⟨p.limit,[],[]⟩=[]:=by simp[Aa,partsB]
 rw[GR h];refine⟨⟨Tg c,Tg c,by simp[CW],by simp[CW],ϡ,rfl,rfl,?_,?_,?_,?_⟩,?_⟩
 ·intro y a;rw[b]at a;cases a
 ·rw[b];exact nodup_nil
 ·intro y a;rw[b]at a;cases a
 ·intro y a;rw[b]at a;cases a
 ·intro y a;rw[b]at a;cases a
theorem FT(a:pl.Al p=0)(h:goodJ p s)(v:Ev):stepJ p s v=if AB p s v≠0 then(AB p s v,j0,[])else if v.kind=2 then(0,Bu p (BS s v.side v.time),[])else(0,CB p s v):=by
 have e:B6 p s=0:=h.ok.none a;unfold stepJ;rw[if_neg (by rw[e];exact λk=>k rfl)]
def St1(K:ByteArray):Jn:=⟨⟨2,[⟨K,1,0,rw2 7 1,false⟩],[]⟩,⟨2,[],[]⟩,noMark,noMark,1⟩
def St2(K:ByteArray):Jn:=⟨⟨2,[⟨K,1,0,rw2 7 1,true⟩],[]⟩,⟨2,[⟨K,2,1,rw2 7 2,true⟩],[]⟩,noMark,noMark,2⟩
def St3(K:ByteArray):Jn:=⟨⟨2,[⟨K,1,0,rw2 7 1,true⟩],[]⟩,⟨2,[⟨K,2,1,rw2 7 2,true⟩],[]⟩,4,noMark,2⟩
def ch1:ch.Chg:=⟨1,rw2 7 1++bt.AE 2⟩
def ch2:ch.Chg:=⟨3,rw2 7 1++bt.AE 2⟩
def ch3:ch.Chg:=⟨4,rw2 7 1++rw2 7 2⟩
def ch4:ch.Chg:=⟨1,rw2 7 4++rw2 7 2⟩
theorem YA:AP []=[]:=by simp[AP]
theorem Of(y:Ent):AP [y]=[y]:=by simp[AP]
theorem JA{side:Int}(h:Bs s (3 - side)=noMark):BI p s side=noMark:=if_pos h
theorem Ti(met:Bool)(h1:pl.hasB p v.side v.row=true)(a:BI p s v.side<v.time):Er p s v met=⟨(Av s v.side (DN (bufOf s v.side) ⟨pl.Ap p v.side v.row,v.time,s.seq,v.row,met⟩)).L,(Av s v.side (DN (bufOf s v.side) ⟨pl.Ap p v.side v.row,v.time,s.seq,v.row,met⟩)).R,(Av s v.side (DN (bufOf s v.side) ⟨pl.Ap p v.side v.row,v.time,s.seq,v.row,met⟩)).lm,(Av s v.side (DN (bufOf s v.side) ⟨pl.Ap p v.side v.row,v.time,s.seq,v.row,met⟩)).rm,(Av s v.side (DN (bufOf s v.side) ⟨pl.Ap p v.side v.row,v.time,s.seq,v.row,met⟩)).seq+1⟩:=by
 unfold Er;rw[if_pos ⟨h1,a⟩]
def St0:Jn:=⟨⟨2,[],[]⟩,⟨2,[],[]⟩,noMark,noMark,0⟩
theorem Lb(y:Ent):DN ⟨2,[],[]⟩ y=⟨2,[y],[]⟩:=by
 unfold DN;rw[show AP (([]:List Ent)++[y])=[y]from Of y];rfl
theorem Tj(a:p.kind=1):CB p s v=(Er p (CQ p s v) v (!(partners p s v).isEmpty),Ck p s v):=by
 unfold CB;rw[if_neg (by rw[a];decide)]
theorem Og(side:Int):keepsJ 4 side=true:=rfl
theorem Adn(h:begP p K):stepJ p (Aw p) ev1=(0,St1 K,[ch1]):=by
 rw[FT h.err (good_start h.err),GR h.err,h.limit];show(if AB p St0 ev1≠0 then(AB p St0 ev1,j0,[])else if ev1.kind=2 then(0,Bu p (BS St0 ev1.side ev1.time),[])else(0,CB p St0 ev1))=_;have e:AB p St0 ev1=0:=by
  simp[AB,ev1,pl.Bz,tm.Bc,h.e1,Bs,noMark,bufOf,Aa,partsB,St0]
 have a:partners p St0 ev1=[]:=by
  simp[partners,ev1,h.h1,Cx,bufOf,Aa,partsB,YA,St0]
 have b:CQ p St0 ev1=St0:=by
  unfold CQ;rw[a];rfl
 rw[if_neg (by rw[e];exact λk=>k rfl),if_neg Ϡ,Tj h.kind,b,a,Ti _ h.h1 (by rw[JA rfl];decide)];unfold Ck;rw[a,h.mode];show(0,_,_)=_;have c:pl.Ap p ev1.side ev1.row=K:=h.k1;rw[c];simp only[ev1,bufOf,Av,St0,Lb,Og,AN,AJ];simp[St1,ch1,h.r,Lb]
theorem Ac1(h:begP p K):goodJ p (St1 K):=by
 have:=good_step (p:=p) (s:=Aw p) (v:=ev1) (good_start h.err).wf ⟨EN Ϡ Ϡ,Ϡ⟩ (by rw[Adn h]);rw[Adn h]at this;exact this
theorem Ado(h:begP p K):stepJ p (St1 K) ev2=(0,St2 K,[ch2,ch3]):=by
 rw[FT h.err (Ac1 h)];have e:AB p (St1 K) ev2=0:=by
  simp[AB,ev2,pl.Bz,tm.Bc,h.e2,Bs,noMark,bufOf,Aa,partsB,St1]
 have a:partners p (St1 K) ev2=[⟨K,1,0,rw2 7 1,false⟩]:=by
  simp[partners,ev2,h.h2,Cx,bufOf,Aa,partsB,Of,St1,h.k2,DX,toJ,h.kind,h.low,h.high]
 have b:CQ p (St1 K) ev2=⟨⟨2,[⟨K,1,0,rw2 7 1,true⟩],[]⟩,⟨2,[],[]⟩,noMark,noMark,1⟩:=by
  unfold CQ;rw[a];rfl
 rw[if_neg (by rw[e];exact λk=>k rfl),if_neg Ϡ,Tj h.kind,b,a,Ti _ h.h2 (by rw[JA rfl];decide)];unfold Ck;rw[a,h.mode];have c:pl.Ap p ev2.side ev2.row=K:=h.k2;rw[c];simp only[ev2,bufOf,Av,Lb,Og,AN,AJ];simp[St2,ch2,ch3,h.r,Lb]
theorem Ac2(h:begP p K):goodJ p (St2 K):=by
 have:=good_step (p:=p) (s:=St1 K) (v:=ev2) (Ac1 h).wf ⟨EN Ϡ Ϡ,Ϡ⟩ (by rw[Ado h]);rw[Ado h]at this;exact this
theorem Adp(h:begP p K):stepJ p (St2 K) ev3=(0,St3 K,[]):=by
 rw[FT h.err (Ac2 h)];have e:AB p (St2 K) ev3=0:=by
  simp[AB,ev3,pl.Bz,tm.Bc,Bs,noMark,St2]
 rw[if_neg (by rw[e];exact λk=>k rfl),if_pos (show ev3.kind=2 from rfl)];have a:BI p (St3 K) 1=noMark:=JA rfl;have b:BI p (St3 K) 2= -1:=by
  unfold BI;rw[if_neg (show Bs (St3 K) (3 - 2)≠noMark from show(4:Int)≠noMark by decide)];exact h.gone
 have c:BS (St2 K) ev3.side ev3.time=St3 K:=rfl;rw[c];simp only[Bu,h.kind,dropJ,a,b];simp[St3,Bt,Cm,noMark,Dg]
theorem AaB(h:begP p K):goodJ p (St3 K):=by
 have:=good_step (p:=p) (s:=St2 K) (v:=ev3) (Ac2 h).wf ⟨λc a=>(by cases a),Ϡ⟩ (by rw[Adp h]);rw[Adp h]at this;exact this
theorem beg4(h:begP p K):stepJ p (St3 K) ev4=(7,j0,[]):=by
 rw[FT h.err (AaB h)];have e:AB p (St3 K) ev4=7:=by
  simp[AB,ev4,pl.Bz,tm.Bc,h.e3,Bs,noMark,St3]
 rw[if_pos (by rw[e];decide),e]
theorem beg5(h:begP p K):∃s,stepJ p (St3 K) ev5=(0,s,[ch4])/\s.lm=4/\s.rm=noMark/\s.seq=3/\goodJ p s:=by
 have e:AB p (St3 K) ev5=0:=by
  simp[AB,ev5,pl.Bz,tm.Bc,h.e4,Bs,noMark,bufOf,Aa,partsB,St3]
 have c:partners p (St3 K) ev5=[⟨K,2,1,rw2 7 2,true⟩]:=by
  simp[partners,ev5,h.h4,Cx,bufOf,Aa,partsB,Of,St3,h.k4,DX,toJ,h.kind,h.low,h.high]
 have a:stepJ p (St3 K) ev5=(0,CB p (St3 K) ev5):=by
  rw[FT h.err (AaB h),if_neg (by rw[e];exact λk=>k rfl),if_neg Ϡ]
 have d:(CB p (St3 K) ev5).2=[ch4]:=by
  simp only[CB,h.kind,Ck,c];simp[ev5,keepsJ,h.mode,AJ,ch4]
 have b:(CB p (St3 K) ev5).1=Er p (CQ p (St3 K) ev5) ev5 true:=by
  simp only[CB,h.kind,c];simp
 have g:=good_step (p:=p) (s:=St3 K) (v:=ev5) (AaB h).wf ⟨EN Ϡ Ϡ,Ϡ⟩ (by rw[a]);refine⟨(CB p (St3 K) ev5).1,?_,?_,?_,?_,?_⟩
 ·rw[a,<-d]
 ·rw[b];unfold Er;dsimp only;split<;>simp[Av,CQ,ev5,St3]
 ·rw[b];unfold Er;dsimp only;split<;>simp[Av,CQ,ev5,St3]
 ·rw[b];unfold Er;dsimp only;split<;>simp[Av,CQ,ev5,St3]
 ·rw[a]at g;exact g
theorem AaC(h:begP p K):∃s,AZ p J9=(0,s,[ch1,ch2,ch3,ch4],[3])/\s.lm=4/\s.rm=noMark/\s.seq=3:=by
 obtain⟨s,a,b,c,d,e⟩:=beg5 h;refine⟨s,?_,b,c,d⟩;unfold AZ;rw[if_neg (by rw[h.err];exact λk=>k rfl)];unfold Fp;rw[if_neg Ϡ];simp only[J9,C6,Adn h,Ado h,Adp h,beg4 h,a];simp
def Em:List ch.Chg:=[ch1,ch2,ch3,ch4]
theorem Vg:ch.Bq Em=0:=Ϣ
theorem Ad4:ch.J4 (ch.Bi []) Em 0=0:=Ϣ
theorem Ad5:ch.J4 (ch.Bi []) Em 1=0:=Ϣ
theorem Ad6:ch.J4 (ch.Bi []) Em 2=0:=Ϣ
theorem Ad7:ch.J4 (ch.Bi []) Em 3=0:=Ϣ
theorem Vh:∀i,i<4->ch.J4 (ch.Bi []) Em i=0:=by
 intro i a
 match i,a with
 |0,_=>exact Ad4
 |1,_=>exact Ad5
 |2,_=>exact Ad6
 |3,_=>exact Ad7
theorem AaD:(ch.atK (ch.Bi []) Em 4).length=2:=Ϣ
end jn
namespace jn
open vl bf
attribute [local go_sem] Oper.semAt_some
theorem Tk(p:pl.Pln)(x:pl.PA)(w:ϛ)(h0:pl.Al p=0):
 η 11 #[pl.Ak p x] w (θ w (joinV (Aw p) jx0)):=by
 obtain⟨B,e⟩:=nM (joinV (Aw p) jx0);have i:=hV0 e;rw[e];clear e;rw[GR h0]at i;clear h0;unfold pl.Ak;go_enter func11,ntmps11;go_upto_region 1 with fail;generalize b:(World.alloc (World.alloc w _) _)=V;have y:Ϟ w V:=by rw[<-b];exact Ϫ.alloc ϡ _
 have g:ϝ (boxP V w p x):=by
  subst b;exact Ad (BL ..) Ϫ
 have d:ϝ (noJ V (w+1)):=by
  subst b;have:=EP (ξ w (Φ p x) 25);rw[World.size_alloc]at this;exact this
 clear b;have A:=g.o.2.2.2.2.2.1;go_upto_region 2 with fail;generalize b:(World.alloc V _)=c;have f:Ϟ V c:=by rw[<-b];exact Ϫ
 have z:Ϟ w c:=bT y f;have D:Δ c V 0 (vI p.limit):=by subst b;go_simp
 have E:Δ c V 1 (vS none 0 0):=by subst b;go_simp
 have F:Δ c V 2 (vS none 0 0):=by subst b;go_simp
 replace d:ϝ (noJ c (w+1)):=Ay d.o f;clear b A g f;have a:ϝ ((World.setCells c (w.heap.size+1) 0 [vI p.limit,ψ,ψ,vI p.limit,ψ,ψ,vI (-1099511627777),vI (-1099511627777),ω]).rangeAt (w.heap.size+1) 0 [vI p.limit,ψ,ψ,vI p.limit,ψ,ψ,vI (-1099511627777),vI (-1099511627777),ω]):=CX d.o rfl;have h:ϝ (Ϟ w (World.setCells c (w.heap.size+1) 0 [vI p.limit,ψ,ψ,vI p.limit,ψ,ψ,vI (-1099511627777),vI (-1099511627777),ω])):=below_setCells (Nat.le_succ w.heap.size) _ 0 _ z;go_wp2_with ((with_reducible refine wpList_store_mid ?_ 31 (.tmp 2) (.tmp 9) ?_ (w.heap.size+1) 0 #[vI p.limit,ψ,ψ,vI p.limit,ψ,ψ,vI (-1099511627777),vI (-1099511627777),ω] ?_ ?_ ?_ ?_ ?_ ?_);exact rfl;exact rfl;exact rfl;exact rfl;exact d.o;exact BU;exact Ϩ);generalize (World.setCells c (w.heap.size+1) 0 [vI p.limit,ψ,ψ,vI p.limit,ψ,ψ,vI (-1099511627777),vI (-1099511627777),ω])=C at a h⊢;have j:=a.o 0 _ rfl;have k:=a.o 1 _ rfl;have m:=a.o 2 _ rfl;have n:=a.o 3 _ rfl;have o:=a.o 4 _ rfl;have q:=a.o 5 _ rfl;have r:=a.o 6 _ rfl;have t:=a.o 7 _ rfl;have u:=a.o 8 _ rfl;simp only[Nat.zero_add]at j k m n o q r t u;exact bodyPost_ret (v:=.agg #[vI p.limit,ψ,ψ,vI p.limit,ψ,ψ,vI (-1099511627777),vI (-1099511627777),ω]) (by simp[results,results11,go_sem,j,k,m,n,o,q,r,t,u]) rfl ⟨by rw[<-i.o];rfl,h.o⟩
def Tl(s:Jn):Prop:=((∀l∈partsB s.L,l.length<=χ)/\∀y∈Aa s.L,y.row.length<=χ)/\((∀l∈partsB s.R,l.length<=χ)/\∀y∈Aa s.R,y.row.length<=χ)
theorem Tm(s:Jn)(y z:JX)(w:ϛ)(h:joinAt w s y)(n:joinAt w s z)(c:Tl s):
 η 13 #[joinV s y,joinV s z] w (θ w (.bool true)):=by
 have F:ϝ (∀a,Ϟ w a->CT 38 #[.agg (Ω s.L y.l),.agg (Ω s.L z.l)] a (θ a (.bool true))):=λa b=>Rb s.L y.l z.l a (Ag h.l b) (Ag n.l b) c.1.1 c.1.2;have G:ϝ (∀a,Ϟ w a->CT 38 #[.agg (Ω s.R y.r),.agg (Ω s.R z.r)] a (θ a (.bool true))):=λa b=>Rb s.R y.r z.r a (Ag h.r b) (Ag n.r b) c.2.1 c.2.2;rw[A0,A0];clear h n c;go_enter func13,ntmps13;go_upto_region 1 with fail;generalize d:(World.alloc (World.alloc w _) _)=V;have A:Ϟ w V:=by rw[<-d];exact Ϫ.alloc ϡ _
 have k:ϝ (AK V w s y):=by
  subst d;exact Ah (AL ..) Ϫ
 have m:ϝ (AK V (w+1) s z):=by
  subst d;have:=AL (ξ w (Ψ s y) 31) s z 31;rw[World.size_alloc]at this;exact this
 clear d;obtain⟨u0,u1,u2,u3,u4,u5,u6,u7,u8⟩:=k.o;obtain⟨o,q,r,t,u,x,g,i,j⟩:=m.o;go_wp2_with fail;refine(F.o _ A).mono ?_;rintro e a ⟨rfl,f⟩;have D:Ϟ w a:=bT A f;clear u0 u1 u2 u3 u4 u5 u6 u7 u8 o q r t u x g i j;obtain⟨u0,u1,u2,u3,u4,u5,u6,u7,u8⟩:=Ah k.o f;obtain⟨o,q,r,t,u,x,g,i,j⟩:=Ah m.o f;go_wp2_with fail;refine(G.o _ D).mono ?_;rintro e E ⟨rfl,C⟩;have H:Ϟ w E:=bT D C;have B:Ϟ V E:=bT f C;clear u0 u1 u2 u3 u4 u5 u6 u7 u8 o q r t u x g i j;obtain⟨_,_,_,_,_,_,u6,u7,u8⟩:=Ah k.o B;obtain⟨_,_,_,_,_,_,g,i,j⟩:=Ah m.o B;go_wp2;go_ret;exact⟨ϡ,H⟩
end jn
namespace jn
open vl bf
variable {w : ϛ} {l : List Ent}
def Cz(w:World)(a:Option Addr)(l:List Ent):Prop:=
 ∀i,i<l.length->∃b off ra rc,a=some ⟨b,off,none⟩/\Δ w b (off+i * 5) (.string (l.getD i ϰ).key)/\Δ w b (off+i * 5+1) (vI (l.getD i ϰ).time)/\
  Ϛ w b (off+i * 5+1+1) (vI (l.getD i ϰ).seq) (vS ra (l.getD i ϰ).row.length rc) (.bool (l.getD i ϰ).met) (vl.rowAt w ra (l.getD i ϰ).row)
theorem Fv{d:ϛ}{a:Ϝ}(h:Cz w a l)(c:Ϟ w d):Cz d a l:=λi f=>by
 obtain⟨b,o,g,j,e,k,m,n,q,r,t⟩:=h i f;exact⟨b,o,g,j,e,cLz c k,cLz c m,cLz c n,cLz c q,cLz c r,vl.Ac t c⟩
theorem OE.entsAt{base:Nat}{hh:Hdr}{es:List EM}(h:OE w base (hdV hh) es l):hh.2.1=l.length/\Cz w hh.1 l/\l.length<=χ:=by
 obtain⟨⟨d,n⟩,f⟩:=Dq (p:=(hh,es)) h;dsimp only at d n f;have r:=h.len;refine⟨d.trans r,λi q=>?_,ϟ⟩;obtain⟨b,o,e,g,j,k,c,m⟩:=f i ϟ;have a:=h.ers.2 i q;rw[a.key]at g;rw[a.time]at j;rw[a.seq]at k;rw[a.met]at m;unfold hdV at c;rw[a.len]at c;exact⟨b,o,_,_,e,g,j,k,c,m,a.row⟩
end jn
namespace jn
open vl bf
attribute [local go_sem] Oper.semAt_some
def FU(low:Int)(z y:Ent):Bool:=decide (y.time<=low)&&decide (z.key=y.key)&&decide (z.time<=low)&&decide (0<cmpP z y)
def DO(L:List Ent)(low:Int)(y:Ent):Bool:=L.any λz=>FU low z y
theorem any_take_succ(L:List Ent)(f:Ent->Bool)(k:Nat)(h:k<L.length):(L.take (k+1)).any f=((L.take k).any f||f (L.getD k ϰ)):=by
 rw[take_add_one,gEe h,any_append,getD_at h];simp
theorem YB(e:EM)(L:List Ent)(d:Int)(E F:Nat)(ad:Ϝ)(cap:Nat)(w:ϛ)(Z:Δ w E 0 (vS ad L.length cap))(hw:Δ w F 0 (vI d))(hL:Cz w ad L)(hn:L.length<=1000000):
 η 97 #[e.val,μ E,μ F] w (θ w (.bool (!DO L d e.ent))):=by
 have T:Tryz.prog.follows .mixedOrders=true:=rfl;have am:=hIz (λ(e:EM) (f:EM) (O:ϛ)=>I6 e f O);have HL:=hV0 hL;obtain⟨n,ac⟩:=nM L.length;have X:=hV0 ac;rw[ac]at hn Z;obtain⟨R,hR⟩:=nM (DO L d e.ent);have P:=hV0 hR;rw[hR];obtain⟨c,g,q,eh,o⟩:=e;obtain⟨C,el,D⟩:=eh;unfold EM.val hdV;unfold EM.ent at P;dsimp only at P⊢;clear hL ac hR;go_enter func97,ntmps97;go_upto_region 2 with fail;generalize N:(World.alloc w _)=V;have Y:Ϟ w V:=by rw[<-N];exact Ϫ
 have e0:Δ V w 0 (.string c):=by subst N;go_simp
 have e1:Δ V w 1 (vI g):=by subst N;go_simp
 have e2:Δ V w 2 (vI q):=by subst N;go_simp
 have e3:Δ V w 3 (vS C el D):=by subst N;go_simp
 have e4:Δ V w 4 (.bool o):=by subst N;go_simp
 replace Z:=cLz Y Z;replace hw:=cLz Y hw;replace HL:ϝ (Cz V ad L):=Fv HL.o Y;clear N
 go_loopw [5] (λi wr=> ∃k:Nat,k<=n/\i=vI k/\((L.take k).any λz=>FU d z ⟨c,g,q,[],o⟩)=false/\Ϟ V wr) (λi _=>n - (intOf i).toNat)
 case atStart=>exact⟨0,Nat.zero_le _,rfl,rfl,bR⟩
 case round=>
  obtain⟨k,ap,rfl,ai,h⟩:=hrel;have af:=hV0 ai;have ag:Ϟ w wr:=bT Y h;have g5:=cLz h Z;have g6:=cLz h hw;clear ai;by_cases ab:k<n
  ·obtain⟨t,u,G,H,an,y0,y1,y2,W,y4,y5⟩:=HL.o k (by rw[X.o];exact ab);subst an;have j:ϝ (((L.take (k+1)).any λz=>FU d z ⟨c,g,q,[],o⟩)=FU d (L.getD k ϰ) ⟨c,g,q,[],o⟩):=by
    show _=_;rw[any_take_succ L _ k (by rw[X.o];exact ab),af.o,Bool.false_or]
   have B:ϝ (FU d (L.getD k ϰ) ⟨c,g,q,[],o⟩=true->R=true):=λhy=>by
    rw[<-P.o];unfold DO;rw[any_eq_true];exact⟨_,AD (by rw[X.o];exact ab),hy⟩
   obtain⟨yl,aj⟩:=nM (L.getD k ϰ);rw[aj]at y0 y1 y2 W y4 j B;clear y5 aj;obtain⟨r,x,A,lr,y⟩:=yl;dsimp only at y0 y1 y2 W y4;obtain⟨I,ah⟩:=nM lr.length;rw[ah]at W;obtain⟨z,m⟩:=nM (cmpP ⟨r,x,A,[],y⟩ ⟨c,g,q,[],o⟩);have ae:ϝ (FU d ⟨r,x,A,lr,y⟩ ⟨c,g,q,[],o⟩=(decide (g<=d)&&decide (r=c)&&decide (x<=d)&&decide (0<z))):=by
    show _=_;rw[<-m];rfl
   have KC:ϝ (∀O,CT 55 #[.agg (ζ r x A G I H y),.agg (ζ c g q C el D o)] O (θ O (vI z))):=λO=>by
    have:=am.o ⟨r,x,A,(G,I,H),y⟩ ⟨c,g,q,(C,el,D),o⟩ O;unfold EM.ent at this;dsimp only at this;rw[m]at this;exact this
   rw[ae.o]at j B;have i1:(0:Int)<=(k:Int):=ϟ;have i2:(k:Int)<(n:Int):=ϟ;have J:ϝ (∀b,Ϟ wr b->ϗ b w (.string c) (vI g) (vI q) (vS C el D) (.bool o) (ύ b t (u+k * 5) (.string r) (vI x) (vI A) (vS G I H) (.bool y) (Δ b E 0 (vS (some ⟨t,u,none⟩) n cap)/\Δ b F 0 (vI d)))):=λb m=>⟨cLz m (cLz h e0),cLz m (cLz h e1),cLz m (cLz h e2),cLz m (cLz h e3),cLz m (cLz h e4),cLz m (cLz h y0),cLz m (cLz h y1),cLz m (cLz h y2),cLz m (cLz h W),cLz m (cLz h y4),cLz m g5,cLz m g6⟩;clear ae m ah y0 y1 y2 W y4 e0 e1 e2 e3 e4;by_cases c1:g<=d
   ·by_cases M:r=c
    ·have t1:(r.toList==c.toList)=true:=by rw[M];simp
     by_cases c3:x<=d
     ·rw[decide_eq_true c1,decide_eq_true M,decide_eq_true c3]at j B;clear M;by_cases c4:0<z
      ·have al:ϝ (R=true):=B.o (by rw[decide_eq_true c4];rfl);clear B j;go_upto_region 4 with fail;refine gr.AQ (S:=λb=>ϗ b w (.string c) (vI g) (vI q) (vS C el D) (.bool o) (ύ b t (u+k * 5) (.string r) (vI x) (vI A) (vS G I H) (.bool y) (Δ b E 0 (vS (some ⟨t,u,none⟩) n cap)/\Δ b F 0 (vI d)))) 32 rfl T (J.o _ bR.drew) ?_;intro a;refine tkz 0 12 a ?_;refine tkz 1 13 a ?_;refine tkz 2 14 a ?_;refine tkz 3 15 a ?_;refine tkz 4 16 a ?_;refine tkz 5 17 a ?_;refine tkz 6 18 a ?_;refine tkz 7 19 a ?_;refine tkz 8 20 a ?_;refine tkz 9 21 a ?_;refine tkz 10 22 a ?_;refine tkz 11 23 a ?_;refine tkz 12 24 a ?_;refine tkz 13 25 a ?_;refine tkz 14 26 a ?_;refine tkz 15 27 a ?_;refine tkz 16 28 a ?_;refine tkz 17 29 a ?_;refine tkz 18 30 a ?_;refine tkz 19 31 a ?_;refine tkz 20 32 a ?_;refine tkz 21 33 a ?_;refine tkz 22 34 a ?_;refine tkz 23 35 a ?_;refine tkz 24 36 a ?_;refine tkz 25 37 a ?_;refine tkz 26 38 a ?_;refine tkz 27 39 a ?_;refine tkz 28 40 a ?_;refine rD 29 λK Q=>?_;go_simp;go_at_call 55;refine(KC.o _).mono ?_;rintro e w4 ⟨rfl,aa⟩;have U:Ϟ wr w4:=bR.drew.trans aa;go_wp2_with fail;refine Q.out _ _ (J.o _ U) (λa=>?_);clear Q K
       try simp only[Act.put,sI,sZ,sSz]
       refine tkz 30 42 a ?_;refine tkz 31 43 a ?_;refine wpAnyH_done Ϣ ?_ _;go_wp2;go_ret;exact⟨by rw[al.o];rfl,bT ag U⟩
      ·rw[decide_eq_false c4]at j;simp only[Bool.and_false]at j;clear B;go_upto_region 4 with fail;refine gr.AQ (S:=λb=>ϗ b w (.string c) (vI g) (vI q) (vS C el D) (.bool o) (ύ b t (u+k * 5) (.string r) (vI x) (vI A) (vS G I H) (.bool y) (Δ b E 0 (vS (some ⟨t,u,none⟩) n cap)/\Δ b F 0 (vI d)))) 32 rfl T (J.o _ bR.drew) ?_;intro a;refine tkz 0 12 a ?_;refine tkz 1 13 a ?_;refine tkz 2 14 a ?_;refine tkz 3 15 a ?_;refine tkz 4 16 a ?_;refine tkz 5 17 a ?_;refine tkz 6 18 a ?_;refine tkz 7 19 a ?_;refine tkz 8 20 a ?_;refine tkz 9 21 a ?_;refine tkz 10 22 a ?_;refine tkz 11 23 a ?_;refine tkz 12 24 a ?_;refine tkz 13 25 a ?_;refine tkz 14 26 a ?_;refine tkz 15 27 a ?_;refine tkz 16 28 a ?_;refine tkz 17 29 a ?_;refine tkz 18 30 a ?_;refine tkz 19 31 a ?_;refine tkz 20 32 a ?_;refine tkz 21 33 a ?_;refine tkz 22 34 a ?_;refine tkz 23 35 a ?_;refine tkz 24 36 a ?_;refine tkz 25 37 a ?_;refine tkz 26 38 a ?_;refine tkz 27 39 a ?_;refine tkz 28 40 a ?_;refine rD 29 λK Q=>?_;go_simp;go_at_call 55;refine(KC.o _).mono ?_;rintro e w4 ⟨rfl,aa⟩;have U:Ϟ wr w4:=bR.drew.trans aa;go_wp2_with fail;refine Q.out _ _ (J.o _ U) (λa=>?_);clear Q K
       try simp only[Act.put,sI,sZ,sSz]
       refine tkz 30 42 a ?_;refine tkz 31 43 a ?_;refine wpAnyH_done Ϣ ?_ _;go_wp2;go_roundw
       case rel=>exact⟨k+1,ϟ,by go_num,by rw[j.o],bT h U⟩
       case measure=>simp[intOf];omega
     ·rw[decide_eq_false c3]at j;simp only[Bool.and_false,Bool.false_and]at j;clear B M;go_upto_region 4 with fail;refine gr.AQ (S:=λb=>ϗ b w (.string c) (vI g) (vI q) (vS C el D) (.bool o) (ύ b t (u+k * 5) (.string r) (vI x) (vI A) (vS G I H) (.bool y) (Δ b E 0 (vS (some ⟨t,u,none⟩) n cap)/\Δ b F 0 (vI d)))) 32 rfl T (J.o _ bR.drew) ?_;intro a;refine tkz 0 12 a ?_;refine tkz 1 13 a ?_;refine tkz 2 14 a ?_;refine tkz 3 15 a ?_;refine tkz 4 16 a ?_;refine tkz 5 17 a ?_;refine tkz 6 18 a ?_;refine tkz 7 19 a ?_;refine tkz 8 20 a ?_;refine tkz 9 21 a ?_;refine tkz 10 22 a ?_;refine tkz 11 23 a ?_;refine tkz 12 24 a ?_;refine tkz 13 25 a ?_;refine tkz 14 26 a ?_;refine tkz 15 27 a ?_;refine tkz 16 28 a ?_;refine tkz 17 29 a ?_;refine tkz 18 30 a ?_;refine tkz 19 31 a ?_;refine tkz 20 32 a ?_;refine tkz 21 33 a ?_;refine tkz 22 34 a ?_;refine tkz 23 35 a ?_;refine sk 24 36 a ?_;refine sk 25 37 a ?_;refine sk 26 38 a ?_;refine sk 27 39 a ?_;refine sk 28 40 a ?_;refine sk 29 41 a ?_;refine sk 30 42 a ?_;refine tkz 31 43 a ?_;refine wpAnyH_done Ϣ ?_ _;go_wp2;go_roundw
      case rel=>exact⟨k+1,ϟ,by go_num,by rw[j.o],h.drew⟩
      case measure=>simp[intOf];omega
    ·have t1:(r.toList==c.toList)=false:=by
      have:=bytes_beq r c;rw[beq_eq_false_iff_ne];intro e;rw[e]at this;exact M (by simpa using this.symm)
     rw[decide_eq_false M]at j;simp only[Bool.and_false,Bool.false_and]at j;clear B M;go_upto_region 4 with fail;refine gr.AQ (S:=λb=>ϗ b w (.string c) (vI g) (vI q) (vS C el D) (.bool o) (ύ b t (u+k * 5) (.string r) (vI x) (vI A) (vS G I H) (.bool y) (Δ b E 0 (vS (some ⟨t,u,none⟩) n cap)/\Δ b F 0 (vI d)))) 32 rfl T (J.o _ bR.drew) ?_;intro a;refine tkz 0 12 a ?_;refine tkz 1 13 a ?_;refine tkz 2 14 a ?_;refine tkz 3 15 a ?_;refine tkz 4 16 a ?_;refine tkz 5 17 a ?_;refine tkz 6 18 a ?_;refine tkz 7 19 a ?_;refine tkz 8 20 a ?_;refine tkz 9 21 a ?_;refine tkz 10 22 a ?_;refine tkz 11 23 a ?_;refine tkz 12 24 a ?_;refine tkz 13 25 a ?_;refine tkz 14 26 a ?_;refine sk 15 27 a ?_;refine sk 16 28 a ?_;refine sk 17 29 a ?_;refine sk 18 30 a ?_;refine sk 19 31 a ?_;refine sk 20 32 a ?_;refine sk 21 33 a ?_;refine tkz 22 34 a ?_;refine tkz 23 35 a ?_;refine sk 24 36 a ?_;refine sk 25 37 a ?_;refine sk 26 38 a ?_;refine sk 27 39 a ?_;refine sk 28 40 a ?_;refine sk 29 41 a ?_;refine sk 30 42 a ?_;refine tkz 31 43 a ?_;refine wpAnyH_done Ϣ ?_ _;go_wp2;go_roundw
     case rel=>exact⟨k+1,ϟ,by go_num,by rw[j.o],h.drew⟩
     case measure=>simp[intOf];omega
   ·rw[decide_eq_false c1]at j;simp only[Bool.false_and]at j;clear B;go_upto_region 4 with fail;refine gr.AQ (S:=λb=>ϗ b w (.string c) (vI g) (vI q) (vS C el D) (.bool o) (ύ b t (u+k * 5) (.string r) (vI x) (vI A) (vS G I H) (.bool y) (Δ b E 0 (vS (some ⟨t,u,none⟩) n cap)/\Δ b F 0 (vI d)))) 32 rfl T (J.o _ bR.drew) ?_;intro a;refine tkz 0 12 a ?_;refine tkz 1 13 a ?_;refine tkz 2 14 a ?_;refine tkz 3 15 a ?_;refine tkz 4 16 a ?_;refine sk 5 17 a ?_;refine sk 6 18 a ?_;refine sk 7 19 a ?_;refine sk 8 20 a ?_;refine sk 9 21 a ?_;refine sk 10 22 a ?_;refine sk 11 23 a ?_;refine sk 12 24 a ?_;refine tkz 13 25 a ?_;refine tkz 14 26 a ?_;refine sk 15 27 a ?_;refine sk 16 28 a ?_;refine sk 17 29 a ?_;refine sk 18 30 a ?_;refine sk 19 31 a ?_;refine sk 20 32 a ?_;refine sk 21 33 a ?_;refine tkz 22 34 a ?_;refine tkz 23 35 a ?_;refine sk 24 36 a ?_;refine sk 25 37 a ?_;refine sk 26 38 a ?_;refine sk 27 39 a ?_;refine sk 28 40 a ?_;refine sk 29 41 a ?_;refine sk 30 42 a ?_;refine tkz 31 43 a ?_;refine wpAnyH_done Ϣ ?_ _;go_wp2;go_roundw
    case rel=>exact⟨k+1,ϟ,by go_num,by rw[j.o],h.drew⟩
    case measure=>simp[intOf];omega
  ·have ao:k=n:=ϟ;subst ao;have ak:ϝ (R=false):=by
    show _=_;rw[<-P.o];have:=af.o;rw[<-X.o,take_length]at this;exact this
   clear P;go_wp2;go_ret;exact⟨by rw[ak.o];rfl,ag⟩
end jn
end Go.Proofs.YtdohnkkbkfhphaaGreat
