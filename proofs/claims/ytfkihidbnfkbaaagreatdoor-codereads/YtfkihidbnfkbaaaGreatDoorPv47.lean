import Derived.Test.YtfkihidbnfkbaaaGreatDoorPv46
set_option linter.all false
set_option maxHeartbeats 8000000
set_option maxRecDepth 100000
open List renaming length->ϲ
namespace Go.Proofs.YtfkihidbnfkbaaaGreatDoor
open ChangeShapes WideShapes ChangeAt RowKit List Proofs.Tryz
namespace cd
open vl bf jn
attribute [local go_sem] Oper.semAt_some
def Eg5:Egg:=⟨En5.j,[],En5.v⟩
def gx(y:EX):GGX:=⟨y.y,none,0,[],y.va,y.vc⟩
def AfJ{w:ϟ}{y:EX}(h:enAt w En5 y):eggAt w Eg5 (gx y):=⟨h.j,⟨rfl,λi a=>absurd a (CA i),λi a=>absurd a (CA i)⟩,h.v⟩
def XS:wfEg Eg5:=⟨Tp.j,λg a=>absurd a SW,At _,Tp.v,Tp.n⟩
def AbR:BS sP Eg5=0:=by
 have h:=Tq;have a:Hk sP Eg5.gs=0:=by
  unfold Hk;rw[AC Ϥ,AC Ϥ]
 unfold En at h;unfold BS;rw[a];exact h
def Wh:goodE sP Eg5:=Y7 AbR
def AfK:ϲ (C0 Eg5)<=1048576:=B0 Aeh Ϥ
def wrS5:wrS sP Eg5=(C0 Eg5,0):=by
 unfold wrS;rw[AbR,AC Ϥ,AC (by have:=AfK;omega)]
theorem Wi(w:ϟ)(h:LC w)(af:∃T a,Δ w 1 0 (.iface T a)):χ 9 #[] w (ψ w (.bool true)):=by
 obtain⟨A3,ak⟩:=nM ({data:=#[97,98,99]}:ByteArray);have X:ϡ (CT 10 #[.string {data:=#[97,98,99]}] w (ψ w (.tuple #[.string ⟨Oq.toArray⟩,Ϗ]))):=by
  have:=Aat {data:=#[97,98,99]} w h;rw[show({data:=#[97,98,99]}:ByteArray).data.toList=[97,98,99]from rfl,Aei]at this;exact this
 have Y:ϡ (∀c,Ϣ w c->CT 14 #[.string ⟨Oq.toArray⟩] c (ψ c (.tuple #[.string {data:=#[97,98,99]},Ϗ]))):=λc r=>by
  have hl:(⟨Oq.toArray⟩:ByteArray).size=11:=St.trans XL;have:=Adc ⟨Oq.toArray⟩ c (FL h r) (by rw[hl];decide);rw[show(⟨Oq.toArray⟩:ByteArray).data.toList=Oq from rfl,Aej]at this;exact this
 have ai:ϡ (∀c,Ϣ w c->CT 12 #[.string {data:=#[49,50,51,52,53,54,55,56,57]}] c λo d=>o= .returned (.int .u32 3421780262)/\d=c):=λc r=>by
  have:=Sm {data:=#[49,50,51,52,53,54,55,56,57]} c (FL h r) Ϥ;rw[show({data:=#[49,50,51,52,53,54,55,56,57]}:ByteArray).data.toList=[49,50,51,52,53,54,55,56,57]from rfl,Ab7]at this;exact this
 have z:ϡ (∀c,CT 23 #[] c λo d=>(∃x,o= .returned (pl.Ai sP x)/\pl.planAt d sP x)/\Ϣ c d):=λc=>by
  refine(pl.Wx c).mono ?_;rintro o d ⟨⟨x,rfl,k,_⟩,r⟩;exact⟨⟨x,rfl,k⟩,r⟩
 have aj:=hIz (λ(c:ϟ)=>Zz c);have N:ϡ (∀x b v c,pl.planAt c sP x->L4 c (ϋ b) Kv v->CT 22 #[pl.Ai sP x,vS (ϋ b) 5 5] c λo d=>(∃y t nv,o= .returned (.tuple #[enV En5 y,t,nv,Ϗ])/\enAt d En5 y)/\Ϣ c d):=λx b v c k J=>by
  obtain⟨E,R,a3,al,am⟩:=Aba;have:=YM sP x Kv v (ϋ b) 5 E R c pl.Mv k ⟨rfl,rfl⟩ pl.Da al a3 J Ϥ;rw[show (ϲ Kv)=5 from rfl,am]at this;exact this
 have C:ϡ (∀x y c,pl.planAt c sP x->enAt c En5 y->CT 16 #[pl.Ai sP x,enV En5 y] c (ψ c (.tuple #[.string ⟨(C0 Eg5).toArray⟩,Ϗ]))):=λx y c k ha=>by
  have:=Xz sP x Eg5 (gx y) c pl.Mv k (AfJ ha) XS (λ_=>⟨Afw Wh XS,Ϥ⟩);rw[wrS5]at this;exact this
 have A:ϡ (∀x c,Ϣ w c->pl.planAt c sP x->CT 18 #[pl.Ai sP x,.string ⟨(C0 Eg5).toArray⟩] c λo d=>(∃y,o= .returned (.tuple #[egV Eg5 y,Ϗ])/\eggAt d Eg5 y)/\Ϣ c d):=λx c r k=>by
  obtain⟨T,a,ha⟩:=af;refine(QY sP x (C0 Eg5) c pl.Mv k ⟨T,a,cLz r ha⟩).mono ?_;rintro o d ⟨an,h1|⟨_,e,y,ho,hs,_,_,rfl,hy⟩|⟨_,hn,_⟩⟩
  ·exact absurd pl.Da h1.1
  ·obtain rfl:=(MH sP.limit e Eg5 [] [] ho (Y9 Wh XS) (by rw[Nd,Nd];exact hs.symm)).1;exact⟨⟨y,rfl,hy⟩,an⟩
  ·exact absurd AbR (hn Eg5 (Y9 Wh XS) rfl AfK)
 have O:ϡ (∀x y c,enAt c En5 x->eggAt c Eg5 y->CT 20 #[enV En5 x,egV Eg5 y] c (ψ c (.bool true))):=λx y c hx hy=>QZ Eg5 (gx x) y c (AfJ hx) hy Tp.v Tp.n AgP ⟨At _,λg I=>absurd I SW⟩;have W:ϡ ((⟨Oq.toArray⟩:ByteArray).size=11):=St.trans XL;obtain⟨F,hF⟩:=nM (⟨Oq.toArray⟩:ByteArray);obtain⟨B,Z⟩:=nM (⟨(C0 Eg5).toArray⟩:ByteArray);obtain⟨p,k⟩:=nM sP;obtain⟨e,he⟩:=nM En5;obtain⟨g,I⟩:=nM Eg5;rw[hF]at X Y W;rw[Z]at C A;rw[k]at z N C A;rw[he]at N C O;rw[I]at A O;clear hF Z k he I ak A3 h af;go_enter func9,ntmps9;go_wp2_with fail;refine X.o.mono ?_;rintro o c ⟨rfl,aa⟩;go_wp2_with fail;refine(Y.o _ aa).mono ?_;rintro o w2 ⟨rfl,ap⟩;have ax:Ϣ w w2:=bT aa ap;go_wp2_with fail;refine(z.o _).mono ?_;rintro o w3 ⟨⟨x,rfl,m⟩,aq⟩;have ay:Ϣ w w3:=bT ax aq;go_wp2_with fail;refine(aj.o _).mono ?_;rintro o w4 ⟨⟨b,v,rfl,J⟩,ab⟩;have az:Ϣ w w4:=bT ay ab;go_wp2_with fail;refine(N.o x b v w4 (pl.Ae m ab) J).mono ?_;rintro o f ⟨⟨y,t,nv,rfl,hy⟩,ar⟩;have a0:Ϣ w f:=bT az ar;have j:=hV0 hy;clear hy J m;rw[FQ e y];go_upto_region 4 with fail;generalize q:(World.alloc f _)=V;have H:Ϣ f V:=by rw[<-q];exact Ϯ
 have i:ϡ (Ek V f.heap.size e y):=by
  subst q;exact F7 ..
 clear q;have aw:Ϣ w V:=bT a0 H;replace j:ϡ (enAt V e y):=j.o.below H;refine gr.CZ 8 rfl Ϧ (S:=(λd=>Δ d f 0 (vI e.j.L.lim)/\Δ d f 1 (vS y.y.l.m.1.1 y.y.l.m.1.2.1 y.y.l.m.1.2.2)/\Δ d f 2 (vS y.y.l.ra (ϲ y.y.l.rs) y.y.l.rc)/\Δ d f 3 (vI e.j.R.lim)/\Δ d f 4 (vS y.y.r.m.1.1 y.y.r.m.1.2.1 y.y.r.m.1.2.2)/\Δ d f 5 (vS y.y.r.ra (ϲ y.y.r.rs) y.y.r.rc)/\Δ d f 6 (vI e.j.lm)/\Δ d f 7 (vI e.j.rm)/\Δ d f 8 (vI e.j.seq)/\Δ d f 9 (vS none 0 0)/\Δ d f 10 (vS y.va (ϲ e.v) y.vc))) (B5 i.o bR.drew) (λl=>?_);refine tkz 1 32 l ?_;refine rD 0 λK s=>?_;go_simp;go_at_call 23;refine(z.o _).mono ?_;rintro o w6 ⟨⟨x2,rfl,m⟩,H⟩;have Q:Ϣ V w6:=bR.drew.trans H;go_wp2_with fail;refine s.out _ _ (B5 i.o Q) (λl=>?_);clear s K
 try simp only[Act.put,sI,sZ,sSz]
 refine rD 2 λK s=>?_;go_simp;go_at_call 16;rw[<-FQ e y];refine(C.o x2 y w6 m (j.o.below Q)).mono ?_;rintro o u ⟨rfl,au⟩;have D:Ϣ V u:=bT Q au;go_wp2_with fail;refine s.out _ _ (B5 i.o D) (λl=>?_);clear s K
 try simp only[Act.put,sI,sZ,sSz]
 refine tkz 3 30 l ?_;refine tkz 4 34 l ?_;refine tkz 5 35 l ?_;refine tkz 6 9 l ?_;refine tkz 7 10 l ?_;refine GT Ϧ ?_ _;have ae:Ϣ w u:=bT aw D;replace j:ϡ (enAt u e y):=j.o.below D;replace i:ϡ (Ek u f.heap.size e y):=B5 i.o D;clear l m;go_wp2_with fail;refine(z.o _).mono ?_;rintro o w8 ⟨⟨x3,rfl,m⟩,ac⟩;have a1:Ϣ w w8:=bT ae ac;go_wp2_with fail;refine(A.o x3 w8 a1 m).mono ?_;rintro o n ⟨⟨L,rfl,ag⟩,av⟩;have P:Ϣ u n:=bT ac av;have a2:Ϣ w n:=bT ae P;unfold egV egC;replace j:ϡ (enAt n e y):=j.o.below P;replace i:ϡ (Ek n f.heap.size e y):=B5 i.o P;have M:=hV0 ag;clear ag m;go_upto_region 6 with fail;generalize q:(World.alloc n _)=U;have G:Ϣ n U:=by rw[<-q];exact Ϯ
 have ah:ϡ (SB U n.heap.size (egC g L)):=by
  subst q;exact SB.new n (egC g L) _
 clear q;have ad:Ϣ w U:=bT a2 G;replace j:ϡ (enAt U e y):=j.o.below G;replace M:ϡ (eggAt U g L):=M.o.below G;replace i:ϡ (Ek U f.heap.size e y):=B5 i.o G;obtain⟨u0,u1,u2,u3,u4,u5,u6,u7,u8,u9,u10⟩:=i.o;obtain⟨v0,v1,v2,v3,v4,v5,v6,v7,v8,v9,a5⟩:=Ib ah.o;have a4:=W.o;go_wp2_with fail;refine(ai.o _ ad).mono ?_;rintro o a6 ⟨rfl,rfl⟩;go_wp2_with fail;rw[<-FQ e y];refine(O.o y L _ j.o M.o).mono ?_;rintro o a7 ⟨rfl,ao⟩;go_wp2;go_ret;exact⟨rfl,bT ad ao⟩
end cd
namespace cd
open vl bf jn
def XT(e:Egg):Prop:=Uh e.j/\(ϲ e.gs)<=1000000/\∀g∈e.gs,ϲ g.row<=1000/\(ϲ g.bags)<=1000/\∀l∈g.bags,ϲ l<=1073741824
end cd
namespace cd
open vl bf bt jn
variable {p : pl.Pln} {e : Egg}
def Wj(h:BS p e=0):Hk p e.gs=0:=by
 unfold BS at h;by_cases a:AV p e.j=0
 ·rw[AC (by simp[a])]at h;by_cases b:Hk p e.gs=0
  ·exact b
  ·rw[AE b]at h;exact absurd h b
 ·rw[AE a]at h;exact absurd h a
theorem AbS{a:List gr.Grp}(h:Hk p a=0):ϲ a<=4096/\∀g∈a,ϲ g.bags<=4:=by
 unfold Hk at h;split at h
 ·rename_i j;unfold gr.CP at h;split at h
  ·rename_i k;exact absurd h k
  rename_i l;split at h
  ·cases h
  split at h
  ·cases h
  rename_i m;split at h
  ·cases h
  rename_i f;refine⟨ϣ,λg b=>?_⟩;have c:pl.allB (ϲ a) (gr.Gb p a)=true:=by simpa using f
  rw[pl.AA]at c;obtain⟨i,d,rfl⟩:=LT b;have k:=c i d;have e:a.getD i default=a[i]:=by rw[gDe,gEe d];rfl
  unfold gr.Gb gr.Kd at k;rw[e]at k;simp only[G3,Sh]at k;have:=k.2.1;have:=(bt.J9 (fA.1 l) j).2.2;omega
 ·split at h
  ·cases h
  ·rename_i k;have:a=[]:=aL.1 ϣ;subst this;exact⟨ϥ,λg b=>by cases b⟩
theorem Wk(j:Fv p.limit e)(h:BS p e=0)(o:ϲ (C0 e)<=1048576):XT e:=by
 have m:=AbS (Wj h);have n:=(Y7 h).j;have r:∀{b:Buf},okB b->(∀y∈Ab b,Dg y)->(∀l∈partsB b,ϲ l<=ύ)/\∀y∈Ab b,ϲ y.row<=ύ:=λ{b} a hy=>by
  refine⟨λl i=>?_,λy s=>by have:=(hy y s).2.2.2.1;omega⟩;have u:=a.all;have v:ϲ l<=ϲ (Ab b):=FN i;omega
 have k:∀{b:Buf},Ie p.limit b->∀y∈Ab b,Dg y:=λ{b} a y hy=>by
  obtain⟨l,d,q⟩:=Th.1 hy;rcases E3.1 d with rfl|d
  ·exact a.2.1.2 y q
  ·exact(a.2.2.2 l d).2 y q
 refine⟨⟨r n.L (k j.1.1),r n.R (k j.1.2.1)⟩,by have:=m.1;omega,λg c=>?_⟩;obtain⟨t,E,F⟩:=j.2.1.2 g c;refine⟨by have:=t.1;omega,by have:=m.2 g c;omega,λl i=>?_⟩;have w:=JQ (f:=AX) c;have x:ϲ (lst AX e.gs)=8+ϲ (e.gs.flatMap AX):=by unfold lst;rw[lAp,As]
 have z:=JQ (f:=B6) i;have A:ϲ (lst B6 g.bags)=8+ϲ (g.bags.flatMap B6):=by unfold lst;rw[lAp,As]
 have B:=Ee Sq l;have C:ϲ (B6 l)=8+ϲ (l.flatMap BC):=by unfold B6 lst;rw[lAp,As]
 have D:ϲ (AX g)=ϲ (Ck g.row)+8+ϲ (lst B6 g.bags):=by unfold AX;simp only[lAp,As]
 unfold C0 at o;simp only[lAp]at o;omega
def XU(w:ϟ):eggAt w zEg zGx:=OE1.at (st:=[]) (su:=[]) (b:=0) ⟨⟨⟨DJ (At _),OL.nil ..⟩,⟨DJ (At _),OL.nil ..⟩⟩,OL.nil ..,OL.nil ..⟩ rfl
theorem Agm(p:pl.Pln)(s:List UInt8):∃e t,(ch.BK e.v/\(ϲ e.v)<=ύ/\XT e)/\∀w o a,RdR p s w o a->Ϣ w a/\∃x,o= .returned (.tuple #[egV e x,vI t])/\eggAt a e x:=by
 have r:ch.BK zEg.v/\(ϲ zEg.v)<=ύ/\XT zEg:=⟨λc h=>absurd h SW,At _,by simp[XT,Uh,zEg,j0,partsB,Ab],At _,λg h=>absurd h SW⟩;by_cases d:pl.Ag p=0
 ·by_cases h:∃e,Fv p.limit e/\s=C0 e/\(ϲ s)<=1048576/\BS p e=0
  ·obtain⟨e,b,l,q,n⟩:=h;have i:ϲ (C0 e)<=1048576:=l▸q;refine⟨e,0,⟨(GG b i).v,(GG b i).n,Wk b n i⟩,λw o a k=>⟨k.1,?_⟩⟩;rcases k.2 with⟨k,_⟩|⟨_,f,x,j,m,_,_,rfl,z⟩|⟨_,y,_⟩
   ·exact absurd d k
   ·obtain rfl:=(MH p.limit f e [] [] j b (by rw[<-l,<-m])).1;exact⟨x,rfl,z⟩
   ·exact absurd n (y e b l q)
  ·refine⟨zEg,1,r,λw o a k=>⟨k.1,?_⟩⟩;rcases k.2 with⟨k,_⟩|⟨_,f,x,j,m,v,u,_⟩|⟨_,_,rfl⟩
   ·exact absurd d k
   ·exact absurd ⟨f,j,m,v,u⟩ h
   ·exact⟨zGx,rfl,XU _⟩
 ·refine⟨zEg,pl.Ag p,r,λw o a k=>⟨k.1,?_⟩⟩;rcases k.2 with⟨_,rfl⟩|⟨k,_⟩|⟨k,_⟩
  ·exact⟨zGx,rfl,XU _⟩
  ·exact absurd k d
  ·exact absurd k d
theorem Wl(p:pl.Pln)(x:pl.PA)(s:List UInt8)(w:ϟ)(I:pl.wfPlan p)(G:pl.planAt w p x)(M:LC w)(L:∃T a,Δ w 1 0 (.iface T a)):
 χ 6 #[pl.Ai p x,.string ⟨s.toArray⟩] w (ψ w (.bool true)):=by
 obtain⟨e,K,r,H⟩:=Agm p s;have F:∀b,Ϣ w b->∃T a,Δ b 1 0 (.iface T a):=λb j=>by
  obtain⟨T,a,h⟩:=L;exact⟨T,a,cLz j h⟩
 have B:ϡ (∀b,Ϣ w b->CT 18 #[pl.Ai p x,.string ⟨s.toArray⟩] b λo l=>Ϣ b l/\∃y,o= .returned (.tuple #[egV e y,vI K])/\eggAt l e y):=λb j=>(QY p x s b I (pl.Ae G j) (F b j)).mono λo l h=>H _ _ _ h;have A:ϡ (∀b,Ϣ w b->CT 19 #[pl.Ai p x,.string ⟨s.toArray⟩] b λo l=>Ϣ b l/\∃y,o= .returned (.tuple #[egV e y,vI K])/\eggAt l e y):=λb j=>(Aab p x s b I (pl.Ae G j)).mono λo l h=>H _ _ _ h;have Q:ϡ (∀y z b,eggAt b e y->eggAt b e z->CT 20 #[egV e y,egV e z] b (ψ b (.bool true))):=λy z b h k=>QZ e y z b h k r.1 r.2.1 r.2.2.1 r.2.2.2;have P:=hIz (λ(b:ϟ) (j:Ϣ w b)=>Wi b (FL M j) (F b j));obtain⟨q,N⟩:=nM (⟨s.toArray⟩:ByteArray);rw[N]at B A⊢;clear N I G M L F r H;unfold pl.Ai at B A⊢;go_enter func6,ntmps6;go_wp2_with fail;generalize g:World.alloc w _=V;have C:Ϣ w V:=by rw[<-g];exact Ϯ
 have n:ϡ (boxP V w p x):=g▸BF ..;clear g;refine(B.o V C).mono ?_;rintro o b ⟨D,y,rfl,hy⟩;have i:Ϣ w b:=bT C D;replace n:ϡ (boxP b w p x):=Af n.o D;clear C D;unfold egV egC;go_upto_region 2 with fail;generalize g:World.alloc b _=t;have E:Ϣ b t:=by rw[<-g];exact Ϯ
 have d:ϡ (SB t b.heap.size (egC e y)/\eggAt t e y):=by
  subst g;exact⟨SB.new b (egC e y) _,hy.below Ϯ⟩
 clear g;replace i:=bT i E;replace n:ϡ (boxP t w p x):=Af n.o E;clear E hy;obtain⟨S,U,Z,v3,v4,v5,v6,v7,v8,v9,W,X,Y⟩:=n.o;go_wp2_with fail;refine(A.o t i).mono ?_;rintro o m ⟨u,z,rfl,O⟩;replace i:=bT i u;replace d:ϡ (SB m b.heap.size (egC e y)/\eggAt m e y):=⟨d.o.1.below u,d.o.2.below u⟩;clear S U Z v3 v4 v5 v6 v7 v8 v9 W X Y u;unfold egV egC;go_upto_region 3 with fail;generalize g:World.alloc m _=w4;have v:Ϣ m w4:=by rw[<-g];exact Ϯ
 have f:ϡ (SB w4 m.heap.size (egC e z)/\eggAt w4 e z):=by
  subst g;exact⟨SB.new m (egC e z) _,O.below Ϯ⟩
 clear g;replace i:=bT i v;replace d:ϡ (SB w4 b.heap.size (egC e y)/\eggAt w4 e y):=⟨d.o.1.below v,d.o.2.below v⟩;clear v O;go_wp2_with fail;refine(P.o w4 i).mono ?_;rintro o w5 ⟨rfl,c⟩;replace i:=bT i c;have u0:=(d.o.1.below c).cell 0 _ rfl;have u1:=(d.o.1.below c).cell 1 _ rfl;have u2:=(d.o.1.below c).cell 2 _ rfl;have u3:=(d.o.1.below c).cell 3 _ rfl;have u4:=(d.o.1.below c).cell 4 _ rfl;have u5:=(d.o.1.below c).cell 5 _ rfl;have u6:=(d.o.1.below c).cell 6 _ rfl;have u7:=(d.o.1.below c).cell 7 _ rfl;have u8:=(d.o.1.below c).cell 8 _ rfl;have u9:=(d.o.1.below c).cell 9 _ rfl;have u10:=(d.o.1.below c).cell 10 _ rfl;have t0:=(f.o.1.below c).cell 0 _ rfl;have t1:=(f.o.1.below c).cell 1 _ rfl;have t2:=(f.o.1.below c).cell 2 _ rfl;have t3:=(f.o.1.below c).cell 3 _ rfl;have t4:=(f.o.1.below c).cell 4 _ rfl;have t5:=(f.o.1.below c).cell 5 _ rfl;have t6:=(f.o.1.below c).cell 6 _ rfl;have t7:=(f.o.1.below c).cell 7 _ rfl;have t8:=(f.o.1.below c).cell 8 _ rfl;have t9:=(f.o.1.below c).cell 9 _ rfl;have aa:=(f.o.1.below c).cell 10 _ rfl;have J:=Q.o y z w5 (d.o.2.below c) (f.o.2.below c);clear c;unfold egV egC at J;go_wp2_with fail;refine J.mono ?_;rintro o w6 ⟨rfl,R⟩;go_wp2;go_ret;exact⟨rfl,bT i R⟩
end cd
